import Derived.Test.YtcoimjbhoiipoaaGreatDoorG30
set_option maxHeartbeats 12800000
set_option maxRecDepth 100000
open Go.Lib (hid)
open Go.Proofs.Tryz
namespace Go.Proofs.YtcoimjbhoiipoaaGreatDoor.ima
open Go.RowKit words ext name tre

def mkB (l:List UInt8):ByteArray:=⟨l.toArray⟩
theorem Jj0 (l:List UInt8):(mkB l).data.toList=l:=rfl
theorem Ja8 (l:List UInt8):(mkB l).size=l.length:=rfl
theorem Jjc (l:List UInt8) (t:ByteArray):mkB l++t=mkB (l++t.data.toList):=by
 refine Jq3 ?_;rw [ByteArray.data_append,Array.toList_append];rfl
theorem rput (l:List UInt8) (n:Int) (s:Nat) (w:World) (h1:1≤s) (h2:s≤4) (h3:0≤n) (h64:n≤9223372036854775807) (ht:l.length≤1000000000):
  Calls prog 23 #[.string (mkB l),.int .i64 n,.int .i64 (s:Int)] w fun e w'=>e= .returned (.string (mkB (l++be n s)))∧Below w.heap.size w w':=
 Jlr (mkB l) n s w h1 h2 h3 h64 ht
theorem rtext (l:List UInt8) (t:ByteArray) (s:Nat) (w:World) (h1:1≤s) (h2:s≤4) (ht:l.length≤100000000) (hs:t.size≤100000000):
  Calls prog 24 #[.string (mkB l),.string t,.int .i64 (s:Int)] w fun e w'=>e= .returned (.string (mkB (l++(be (t.size:Int) s++t.data.toList))))∧Below w.heap.size w w':=by
 have HP:=hid (rput l (t.size:Int) s w h1 h2 (by omega) (by omega) (by omega));obtain⟨q,hq⟩:=words.nm (mkB (l++be (t.size:Int) s));have hqs:q.size=l.length+s:=by rw [hq,Ja8,List.length_append,Jad]
 have hcat:¬9223372036854775807<q.size+t.size:=by omega
 rw [←hq] at HP;have Hq:=hid hq;clear hq;go_enter func24,ntmps24
 go_wp2_with fail
 refine HP.out.mono ?_;rintro e w2 ⟨rfl,hb2⟩;have HB2:=hid hb2;clear hb2 HP;go_wp2_with fail
 go_ret
 refine⟨?_,HB2.out⟩;show Ending.returned (.string (q++t))=_;rw [Hq.out,Jjc,List.append_assoc]

def RefPut (W0:World) (k:Nat):Prop:=∀(n:Nd) (r:Raw) (w:World),depth n<k→NdAt W0 W0.heap.size n r→allB n=true→count n≤4096→Below W0.heap.size W0 w→(nb n).length≤4194297→
 Calls prog 13 #[ndV n r] w fun e w'=>e= .returned (.string (mkB (nb n)))∧Below w.heap.size w w'
theorem Jnf (W0:World):∀k:Nat,RefPut W0 k:=by
 intro k
 induction k with
 |zero=>intro n r w hk;omega
 |succ k ih=>
  intro n r w hk hN ha hc hb hl;have hone:=Jeu ha;have hK:=Jrz hone;have hle0:=hb.size;rw [Jbz] at hl;rw [List.length_append,Jad] at hl;obtain⟨W1,hW1⟩:=words.nm (w.alloc (.cells (rawCells n r) 28));have hb1:=words.b1 hW1;have hx1:Box W1 w.heap.size n r:=by rw [hW1];exact Box.new w n r
  have p1:Calls prog 23 #[.string ⟨#[]⟩,.int .i64 n.K,.int .i64 1] W1 fun e w'=>e= .returned (.string (mkB (be n.K 1)))∧Below W1.heap.size W1 w':=rput [] n.K 1 W1 (by omega) (by omega) (by omega) (by omega) (by simp);have HP1:=hid p1;have HX1:=hid hx1;have HB1:=hid hb1;have HN:=hid hN;have HB:=hid hb;have IH:=hid ih;have HAll:=hid ha;have HOne:=hid hone;unfold rawCells at hW1;have HW1:=hid hW1;obtain⟨b0,b1,b2,b3,b4,b5,b6⟩:=hx1.cells;clear hN hb hW1 hb1 hx1 p1 ih ha hone;unfold ndV rawCells;go_enter func13,ntmps13
  go_upto_region 1 with fail
  rw [←HW1.out];go_wp2_with fail
  refine HP1.out.mono ?_;rintro e w2 ⟨rfl,hb2⟩;have HX2:=hid (HX1.out.below hb2);have HB2:=hid (HB1.out.trans (hb2.mono HB1.out.size));clear hb2 HP1 HX1 HB1 HW1 b0 b1 b2 b3 b4 b5 b6;obtain⟨b0,b1,b2,b3,b4,b5,b6⟩:=HX2.out.cells;rcases hK with hK |hK |hK |hK
  ·have hr:rightB n.S n.E=true:=(Jmd HOne.out).2.2
   have hR:=Jl4.1 hr;have hS:=hR.1;have hle:=Jlf n.E;have hbd:=Jge hK;rw [hbd] at hl;have hl2:9+(exB n.E).length≤4194297:=by simp only [List.length_append,Jad] at hl;omega
   obtain⟨P0,hP0⟩:=words.nm (be n.K 1);have hPl:P0.length=1:=by rw [hP0,Jad]
   have hnb:nb n=P0++be n.S 4++be (n.E.length:Int) 4++exB n.E:=by rw [Jbz,hbd,hP0];simp only [List.append_assoc]
   rw [←hP0];obtain⟨S0,hS0⟩:=words.nm (mkB P0);obtain⟨S1,hS1⟩:=words.nm (mkB (P0++be n.S 4));obtain⟨Q0,hQ0⟩:=words.nm (P0++be n.S 4++be (n.E.length:Int) 4);obtain⟨S2,hS2⟩:=words.nm (mkB Q0);have hQl:Q0.length=9:=by rw [hQ0];simp only [List.length_append,Jad];omega
   rw [←hQ0] at hnb;rw [←hS0];have J1:Hid (∀w':World,Below w2.heap.size w2 w'→Calls prog 23 #[.string S0,.int .i64 n.S,.int .i64 4] w' fun e w''=>e= .returned (.string S1)∧Below w2.heap.size w2 w''):=hid fun w' h=>by
    rw [hS0,hS1];exact (rput P0 n.S 4 w' (by omega) (by omega) hS.1 (by omega) (by omega)).mono fun _ _ ⟨he,hw⟩=>⟨he,h.trans (hw.mono h.size)⟩
   have J2:Hid (∀w':World,Below w2.heap.size w2 w'→Calls prog 23 #[.string S1,.int .i64 (n.E.length:Int),.int .i64 4] w' fun e w''=>e= .returned (.string S2)∧Below w2.heap.size w2 w''):=hid fun w' h=>by
    rw [hS1,hS2,hQ0];exact (rput (P0++be n.S 4) (n.E.length:Int) 4 w' (by omega) (by omega) (by omega) (by omega) (by rw [List.length_append,Jad];omega)).mono fun _ _ ⟨he,hw⟩=>⟨he,h.trans (hw.mono h.size)⟩
   have HS:Hid (∀w':World,Below w2.heap.size w2 w'→(w'.cell? ⟨w.heap.size,4,none⟩=some (.int .i64 n.S)∧w'.cell? ⟨w.heap.size,5,none⟩=some (.slice r.Ae n.E.length r.ce)∧Below w2.heap.size w2 w')):=hid fun w' h=>⟨(HX2.out.below h).cells.2.2.2.2.1,(HX2.out.below h).cells.2.2.2.2.2.1,h⟩
   have HD2:=hid ((Below.refl w2.heap.size w2).drew);have HEx:=hid hR.2.1;have HExs:=hid HN.out.exts;have Hnb:=hid hnb;have HP0:=hid hP0;have HK:=hid hK;have HS2:=hid hS2;rw [hK] at b0;clear hbd hl hr hR hnb hP0 hK hS0 hS1 hS2 hQ0;go_upto_region 3 with fail
   go_region_held3 (fun w'=>w'.cell? ⟨w.heap.size,4,none⟩=some (.int .i64 n.S)∧w'.cell? ⟨w.heap.size,5,none⟩=some (.slice r.Ae n.E.length r.ce)∧Below w2.heap.size w2 w')
    (first |exact HS.out _ (by assumption) |exact HS.out _ HD2.out)
    (first |(go_at_call 23;with_reducible refine (J1.out _ (by first |assumption |exact HD2.out)).mono ?_;rintro e w' ⟨rfl,hb'⟩) |(go_at_call 23;with_reducible refine (J2.out _ (by first |assumption |exact HD2.out)).mono ?_;rintro e w' ⟨rfl,hb'⟩))
   all_goals
    have HF:=hid hb';clear hb' J1 J2 HS b0 b1 b2 b3 b4 b5 b6;go_wp2_with fail
    go_loopw [3,4] (fun v3 v4 wr=>∃j:Nat,j≤n.E.length∧v4= .int .i64 j∧v3= .string (mkB (Q0++exB (n.E.take j)))∧Hid (Below w2.heap.size w2 wr)) (fun _ v4 _=>n.E.length - (intOf v4).toNat)
    case atStart=>exact⟨0,Nat.zero_le _,rfl,by rw [List.take_zero,show exB []=[] from rfl,List.append_nil,HS2.out],HF⟩
    case round=>
     obtain⟨j,hj,rfl,rfl,HBr⟩:=hrel;by_cases hlt:j<n.E.length
     ·obtain⟨x,hx⟩:∃x,n.E[j]?=some x:=⟨_,List.getElem?_eq_getElem hlt⟩
      obtain⟨x1,x2,x3⟩:=HEx.out x (List.mem_of_getElem? hx);have hbr:Below W0.heap.size W0 wr:=HB.out.trans ((HB2.out.trans (HBr.out.mono HB2.out.size)).mono hle0);obtain⟨⟨b,off,hA,hBb,c0,c1⟩,_,_,_⟩:=(HExs.out.keep hbr) j x hx;have i0:(0:Int)≤(j:Int):=by omega
      have i1:(j:Int)<(n.E.length:Int):=by omega
      have htk:=Jp3 n.E (j+1);rw [take_at hx,Jkj] at htk;simp only [List.length_append,Jad,ext.size_list] at htk;obtain⟨D,hD⟩:=words.nm (Q0++exB (n.E.take j));have hDl:D.length=9+(exB (n.E.take j)).length:=by rw [hD,List.length_append];omega
      have hD1:D++be x.O 4++(be (x.D.size:Int) 4++x.D.data.toList)=Q0++exB (n.E.take (j+1)):=by
       rw [hD,take_at hx,Jkj];simp only [List.append_assoc]
      rw [←hD];obtain⟨T0,hT0⟩:=words.nm (mkB D);obtain⟨T1,hT1⟩:=words.nm (mkB (D++be x.O 4));obtain⟨T2,hT2⟩:=words.nm (mkB (D++be x.O 4++(be (x.D.size:Int) 4++x.D.data.toList)));rw [←hT0];have HD1:=hid hD1;have hszr:=HBr.out.size;have hxr:=HX2.out.below HBr.out;obtain⟨b0,b1,b2,b3,b4,b5,b6⟩:=hxr.cells;have K1:Hid (∀w':World,Below wr.heap.size wr w'→Calls prog 23 #[.string T0,.int .i64 x.O,.int .i64 4] w' fun e w''=>e= .returned (.string T1)∧Below wr.heap.size wr w''):=hid fun w' h=>by
       rw [hT0,hT1];exact (rput D x.O 4 w' (by omega) (by omega) x2 (by omega) (by omega)).mono fun _ _ ⟨he,hw⟩=>⟨he,h.trans (hw.mono h.size)⟩
      have K2:Hid (∀w':World,Below wr.heap.size wr w'→Calls prog 24 #[.string T1,.string x.D,.int .i64 4] w' fun e w''=>e= .returned (.string T2)∧Below wr.heap.size wr w''):=hid fun w' h=>by
       rw [hT1,hT2];exact (rtext (D++be x.O 4) x.D 4 w' (by omega) (by omega) (by rw [List.length_append,Jad];omega) (by omega)).mono fun _ _ ⟨he,hw⟩=>⟨he,h.trans (hw.mono h.size)⟩
      rw [hA] at b5;have hbl:=World.block_lt_of_cell? _ _ c0;have HS:Hid (∀w':World,Below wr.heap.size wr w'→(w'.cell? ⟨w.heap.size,5,none⟩=some (.slice (some ⟨b,off,none⟩) n.E.length r.ce)∧w'.cell? ⟨b,off+j*2,none⟩=some (.int .i64 x.O)∧w'.cell? ⟨b,off+j*2+1,none⟩=some (.string x.D)∧Below wr.heap.size wr w')):=hid fun w' h=>⟨below_cell b5 h,below_cell c0 h,below_cell c1 h,h⟩
      have HDr:=hid ((Below.refl wr.heap.size wr).drew);have HT2:=hid hT2;clear hx hbr hA hD hD1 hxr hT0 hT1 hT2;go_upto_region 7 with fail
      go_region_held3 (fun w'=>w'.cell? ⟨w.heap.size,5,none⟩=some (.slice (some ⟨b,off,none⟩) n.E.length r.ce)∧w'.cell? ⟨b,off+j*2,none⟩=some (.int .i64 x.O)∧w'.cell? ⟨b,off+j*2+1,none⟩=some (.string x.D)∧Below wr.heap.size wr w')
       (first |exact HS.out _ (by assumption) |exact HS.out _ HDr.out)
       (first |(go_at_call 23;refine (K1.out _ (by first |assumption |exact HDr.out)).mono ?_;rintro e w' ⟨rfl,hb'⟩) |(go_at_call 24;refine (K2.out _ (by first |assumption |exact HDr.out)).mono ?_;rintro e w' ⟨rfl,hb'⟩))
      all_goals
       have HBe:=hid (HBr.out.trans (hb'.mono HBr.out.size));clear hb' K1 K2 HS c0 c1 b0 b1 b2 b3 b4 b5 b6;rw [HT2.out,HD1.out];go_wp2_with fail
       go_roundw
       case rel=>exact⟨j+1,by omega,by go_num,rfl,HBe⟩
       case measure=>simp [intOf];omega
     ·obtain rfl:j=n.E.length:=by omega
      obtain⟨b0,b1,b2,b3,b4,b5,b6⟩:=(HX2.out.below HBr.out).cells;rw [HK.out] at b0;rw [List.take_length,←Hnb.out];go_wp2_with fail
      go_ret
      exact⟨rfl,HB2.out.trans (HBr.out.mono HB2.out.size)⟩
  ·have hone2:=Jsc (HOne.out) hK
   have hal:allL n.I=true:=by have h:=HAll.out;rw [Jbt] at h;exact (Bool.and_eq_true _ _▸h).1
   have hcl:=Jam n;have hcI:=Jd7 n.I;have hdn:=Jah n;have hIl:n.I.length≤4096:=by omega
   have hNl:n.N.length≤4096:=by omega
   have hbd:=Jdn hK;rcases hO:n.O with _ |_
   ·have hO1:(if n.O then (1:Int) else 0)=0:=by rw [hO];rfl
    rw [hO1] at hbd;rw [hbd] at hl;have hl2:4+(itB n.N n.I).length≤4194297:=by simp only [List.length_append,Jad] at hl;omega
    obtain⟨P0,hP0⟩:=words.nm (be n.K 1);have hPl:P0.length=1:=by rw [hP0,Jad]
    have hnb:nb n=P0++be 0 1++be (n.N.length:Int) 2++itB n.N n.I:=by rw [Jbz,hbd,hP0,hone2.1];simp only [List.append_assoc]
    rw [←hP0];obtain⟨S0,hS0⟩:=words.nm (mkB P0);obtain⟨S1,hS1⟩:=words.nm (mkB (P0++be 0 1));obtain⟨Q0,hQ0⟩:=words.nm (P0++be 0 1++be (n.N.length:Int) 2);obtain⟨S2,hS2⟩:=words.nm (mkB Q0);have hQl:Q0.length=4:=by rw [hQ0];simp only [List.length_append,Jad];omega
    rw [←hQ0] at hnb;rw [←hS0];have J1:Hid (∀w':World,Below w2.heap.size w2 w'→Calls prog 23 #[.string S0,.int .i64 0,.int .i64 1] w' fun e w''=>e= .returned (.string S1)∧Below w2.heap.size w2 w''):=hid fun w' h=>by
     rw [hS0,hS1];exact (rput P0 0 1 w' (by omega) (by omega) (by omega) (by omega) (by omega)).mono fun _ _ ⟨he,hw⟩=>⟨he,h.trans (hw.mono h.size)⟩
    have J2:Hid (∀w':World,Below w2.heap.size w2 w'→Calls prog 23 #[.string S1,.int .i64 (n.N.length:Int),.int .i64 2] w' fun e w''=>e= .returned (.string S2)∧Below w2.heap.size w2 w''):=hid fun w' h=>by
     rw [hS1,hS2,hQ0];exact (rput (P0++be 0 1) (n.N.length:Int) 2 w' (by omega) (by omega) (by omega) (by omega) (by rw [List.length_append,Jad];omega)).mono fun _ _ ⟨he,hw⟩=>⟨he,h.trans (hw.mono h.size)⟩
    have HS:Hid (∀w':World,Below w2.heap.size w2 w'→(w'.cell? ⟨w.heap.size,2,none⟩=some (.slice r.An n.N.length r.cn)∧Below w2.heap.size w2 w')):=hid fun w' h=>⟨(HX2.out.below h).cells.2.2.1,h⟩
    have HD2:=hid ((Below.refl w2.heap.size w2).drew);have Hnb:=hid hnb;have HK:=hid hK;have HS2:=hid hS2;have HO2:=hid hone2;have HAl:=hid hal;rw [hK] at b0;rw [hO] at b1;clear hbd hl hnb hP0 hK hS0 hS1 hS2 hQ0 hO hO1 hone2 hal;go_upto_region 12 with fail
    go_region_held3 (fun w'=>w'.cell? ⟨w.heap.size,2,none⟩=some (.slice r.An n.N.length r.cn)∧Below w2.heap.size w2 w')
     (first |exact HS.out _ (by assumption) |exact HS.out _ HD2.out)
     (first |(go_at_call 23;with_reducible refine (J1.out _ (by first |assumption |exact HD2.out)).mono ?_;rintro e w' ⟨rfl,hb'⟩) |(go_at_call 23;with_reducible refine (J2.out _ (by first |assumption |exact HD2.out)).mono ?_;rintro e w' ⟨rfl,hb'⟩))
    all_goals
     have HF:=hid hb';clear hb' J1 J2 HS b0 b1 b2 b3 b4 b5 b6;go_wp2_with fail
     go_loopw [3,6] (fun v3 v6 wr=>∃j:Nat,j≤n.N.length∧v6= .int .i64 j∧v3= .string (mkB (Q0++itB (n.N.take j) (n.I.take j)))∧Hid (Below w2.heap.size w2 wr)) (fun _ v6 _=>n.N.length - (intOf v6).toNat)
     case atStart=>exact⟨0,Nat.zero_le _,rfl,by rw [List.take_zero,List.take_zero,Jcl,List.append_nil,HS2.out],HF⟩
     case round=>
      obtain⟨j,hj,rfl,rfl,HBr⟩:=hrel;by_cases hlt:j<n.N.length
      ·have hltI:j<n.I.length:=by have:=HO2.out.1;omega
       obtain⟨x,hx⟩:∃x,n.I[j]?=some x:=⟨_,List.getElem?_eq_getElem hltI⟩
       obtain⟨t,ht⟩:∃t,n.N[j]?=some t:=⟨_,List.getElem?_eq_getElem hlt⟩
       have hts:=HO2.out.2 t (List.mem_of_getElem? ht);have hbr:Below W0.heap.size W0 wr:=HB.out.trans ((HB2.out.trans (HBr.out.mono HB2.out.size)).mono hle0);obtain⟨rx,hrx,b,off,hA,hBb,c0,c1,c2,c3,c4,c5,c6⟩:=HN.out.entry hx hbr;obtain⟨⟨bn,on,hAn,hBn,cn⟩,_⟩:=(HN.out.names.keep hbr) j t ht;have i0:(0:Int)≤(j:Int):=by omega
       have i1:(j:Int)<(n.N.length:Int):=by omega
       have i2:(j:Int)<(n.I.length:Int):=by omega
       have htk:=Jea n.N n.I (j+1);have hsn:itB (n.N.take (j+1)) (n.I.take (j+1))=itB (n.N.take j) (n.I.take j)++(be (t.size:Int) 1++(t.data.toList++nb x)):=by
        rw [take_at hx,take_at ht,Jgn _ _ _ _ (by rw [List.length_take,List.length_take];omega)]
       rw [hsn] at htk;simp only [List.length_append,Jad,ext.size_list] at htk;obtain⟨D,hD⟩:=words.nm (Q0++itB (n.N.take j) (n.I.take j));have hDl:D.length=4+(itB (n.N.take j) (n.I.take j)).length:=by rw [hD,List.length_append];omega
       have hD1:D++(be (t.size:Int) 1++t.data.toList)++nb x=Q0++itB (n.N.take (j+1)) (n.I.take (j+1)):=by
        rw [hD,hsn];simp only [List.append_assoc]
       rw [←hD];obtain⟨T0,hT0⟩:=words.nm (mkB D);obtain⟨T1,hT1⟩:=words.nm (mkB (D++(be (t.size:Int) 1++t.data.toList)));obtain⟨T2,hT2⟩:=words.nm (mkB (nb x));have hadd:T1++T2=mkB (Q0++itB (n.N.take (j+1)) (n.I.take (j+1))):=by rw [←hD1,hT1,hT2,Jjc,Jj0]
       have hz1:T1.size=D.length+1+t.size:=by rw [hT1,Ja8];simp only [List.length_append,Jad,ext.size_list];omega
       have hz2:T2.size=(nb x).length:=by rw [hT2,Ja8]
       have hcat:¬9223372036854775807<T1.size+T2.size:=by omega
       rw [←hT0];have HAdd:=hid hadd;have hcx:=Jcq hx;have hdx:=Ja9 hx;obtain⟨b0,b1,b2,b3,b4,b5,b6⟩:=(HX2.out.below HBr.out).cells;have K1:Hid (∀w':World,Below wr.heap.size wr w'→Calls prog 24 #[.string T0,.string t,.int .i64 1] w' fun e w''=>e= .returned (.string T1)∧Below wr.heap.size wr w''):=hid fun w' h=>by
        rw [hT0,hT1];exact (rtext D t 1 w' (by omega) (by omega) (by omega) (by omega)).mono fun _ _ ⟨he,hw⟩=>⟨he,h.trans (hw.mono h.size)⟩
       have K2:Hid (∀w':World,Below wr.heap.size wr w'→Calls prog 13 #[.agg #[.int .i64 x.K,.bool x.O,.slice rx.An x.N.length rx.cn,.slice rx.Ai x.I.length rx.ci,.int .i64 x.S,.slice rx.Ae x.E.length rx.ce,.string x.T]] w' fun e w''=>e= .returned (.string T2)∧Below wr.heap.size wr w''):=hid fun w' h=>by
        rw [hT2];exact (IH.out x rx w' (by omega) hrx (Jjy HAl.out hx) (by omega) (hbr.trans (h.mono hbr.size)) (by omega)).mono fun _ _ ⟨he,hw⟩=>⟨he,h.trans (hw.mono h.size)⟩
       rw [hA] at b3;rw [hAn] at b2;have HS:Hid (∀w':World,Below wr.heap.size wr w'→(w'.cell? ⟨w.heap.size,2,none⟩=some (.slice (some ⟨bn,on,none⟩) n.N.length r.cn)∧w'.cell? ⟨w.heap.size,3,none⟩=some (.slice (some ⟨b,off,none⟩) n.I.length r.ci)∧w'.cell? ⟨bn,on+j,none⟩=some (.string t)∧(w'.cell? ⟨b,off+j*7,none⟩=some (.int .i64 x.K)∧w'.cell? ⟨b,off+j*7+1,none⟩=some (.bool x.O)∧w'.cell? ⟨b,off+j*7+2,none⟩=some (.slice rx.An x.N.length rx.cn)∧w'.cell? ⟨b,off+j*7+3,none⟩=some (.slice rx.Ai x.I.length rx.ci)∧w'.cell? ⟨b,off+j*7+4,none⟩=some (.int .i64 x.S)∧w'.cell? ⟨b,off+j*7+5,none⟩=some (.slice rx.Ae x.E.length rx.ce)∧w'.cell? ⟨b,off+j*7+6,none⟩=some (.string x.T))∧Below wr.heap.size wr w')):=hid fun w' h=>⟨below_cell b2 h,below_cell b3 h,below_cell cn h,⟨below_cell c0 h,below_cell c1 h,below_cell c2 h,below_cell c3 h,below_cell c4 h,below_cell c5 h,below_cell c6 h⟩,h⟩
       have HDr:=hid ((Below.refl wr.heap.size wr).drew);clear hx ht hbr hA hAn hD hD1 hsn hrx hT0 hT1 hT2 hadd hz1 hz2;go_upto_region 16 with fail
       go_region_held3 (fun w'=>w'.cell? ⟨w.heap.size,2,none⟩=some (.slice (some ⟨bn,on,none⟩) n.N.length r.cn)∧w'.cell? ⟨w.heap.size,3,none⟩=some (.slice (some ⟨b,off,none⟩) n.I.length r.ci)∧w'.cell? ⟨bn,on+j,none⟩=some (.string t)∧(w'.cell? ⟨b,off+j*7,none⟩=some (.int .i64 x.K)∧w'.cell? ⟨b,off+j*7+1,none⟩=some (.bool x.O)∧w'.cell? ⟨b,off+j*7+2,none⟩=some (.slice rx.An x.N.length rx.cn)∧w'.cell? ⟨b,off+j*7+3,none⟩=some (.slice rx.Ai x.I.length rx.ci)∧w'.cell? ⟨b,off+j*7+4,none⟩=some (.int .i64 x.S)∧w'.cell? ⟨b,off+j*7+5,none⟩=some (.slice rx.Ae x.E.length rx.ce)∧w'.cell? ⟨b,off+j*7+6,none⟩=some (.string x.T))∧Below wr.heap.size wr w')
        (first |exact HS.out _ (by assumption) |exact HS.out _ HDr.out)
        (first |(go_at_call 24;with_reducible refine (K1.out _ (by first |assumption |exact HDr.out)).mono ?_;rintro e w' ⟨rfl,hb'⟩) |(go_at_call 13;with_reducible refine (K2.out _ (by first |assumption |exact HDr.out)).mono ?_;rintro e w' ⟨rfl,hb'⟩))
       all_goals
        have HBe:=hid (HBr.out.trans (hb'.mono HBr.out.size));clear hb' K1 K2 HS c0 c1 c2 c3 c4 c5 c6 cn b0 b1 b2 b3 b4 b5 b6 hcat;rw [HAdd.out];go_wp2_with fail
        go_roundw
        case rel=>exact⟨j+1,by omega,by go_num,rfl,HBe⟩
        case measure=>simp [intOf];omega
      ·obtain rfl:j=n.N.length:=by omega
       obtain⟨b0,b1,b2,b3,b4,b5,b6⟩:=(HX2.out.below HBr.out).cells;rw [HK.out] at b0;rw [List.take_length,List.take_of_length_le (by have:=HO2.out.1;omega),←Hnb.out];go_wp2_with fail
       go_ret
       exact⟨rfl,HB2.out.trans (HBr.out.mono HB2.out.size)⟩
   ·have hO1:(if n.O then (1:Int) else 0)=1:=by rw [hO];rfl
    rw [hO1] at hbd;rw [hbd] at hl;have hl2:4+(itB n.N n.I).length≤4194297:=by simp only [List.length_append,Jad] at hl;omega
    obtain⟨P0,hP0⟩:=words.nm (be n.K 1);have hPl:P0.length=1:=by rw [hP0,Jad]
    have hnb:nb n=P0++be 1 1++be (n.N.length:Int) 2++itB n.N n.I:=by rw [Jbz,hbd,hP0,hone2.1];simp only [List.append_assoc]
    rw [←hP0];obtain⟨S0,hS0⟩:=words.nm (mkB P0);obtain⟨S1,hS1⟩:=words.nm (mkB (P0++be 1 1));obtain⟨Q0,hQ0⟩:=words.nm (P0++be 1 1++be (n.N.length:Int) 2);obtain⟨S2,hS2⟩:=words.nm (mkB Q0);have hQl:Q0.length=4:=by rw [hQ0];simp only [List.length_append,Jad];omega
    rw [←hQ0] at hnb;rw [←hS0];have J1:Hid (∀w':World,Below w2.heap.size w2 w'→Calls prog 23 #[.string S0,.int .i64 1,.int .i64 1] w' fun e w''=>e= .returned (.string S1)∧Below w2.heap.size w2 w''):=hid fun w' h=>by
     rw [hS0,hS1];exact (rput P0 1 1 w' (by omega) (by omega) (by omega) (by omega) (by omega)).mono fun _ _ ⟨he,hw⟩=>⟨he,h.trans (hw.mono h.size)⟩
    have J2:Hid (∀w':World,Below w2.heap.size w2 w'→Calls prog 23 #[.string S1,.int .i64 (n.N.length:Int),.int .i64 2] w' fun e w''=>e= .returned (.string S2)∧Below w2.heap.size w2 w''):=hid fun w' h=>by
     rw [hS1,hS2,hQ0];exact (rput (P0++be 1 1) (n.N.length:Int) 2 w' (by omega) (by omega) (by omega) (by omega) (by rw [List.length_append,Jad];omega)).mono fun _ _ ⟨he,hw⟩=>⟨he,h.trans (hw.mono h.size)⟩
    have HS:Hid (∀w':World,Below w2.heap.size w2 w'→(w'.cell? ⟨w.heap.size,2,none⟩=some (.slice r.An n.N.length r.cn)∧Below w2.heap.size w2 w')):=hid fun w' h=>⟨(HX2.out.below h).cells.2.2.1,h⟩
    have HD2:=hid ((Below.refl w2.heap.size w2).drew);have Hnb:=hid hnb;have HK:=hid hK;have HS2:=hid hS2;have HO2:=hid hone2;have HAl:=hid hal;rw [hK] at b0;rw [hO] at b1;clear hbd hl hnb hP0 hK hS0 hS1 hS2 hQ0 hO hO1 hone2 hal;go_upto_region 12 with fail
    go_region_held3 (fun w'=>w'.cell? ⟨w.heap.size,2,none⟩=some (.slice r.An n.N.length r.cn)∧Below w2.heap.size w2 w')
     (first |exact HS.out _ (by assumption) |exact HS.out _ HD2.out)
     (first |(go_at_call 23;with_reducible refine (J1.out _ (by first |assumption |exact HD2.out)).mono ?_;rintro e w' ⟨rfl,hb'⟩) |(go_at_call 23;with_reducible refine (J2.out _ (by first |assumption |exact HD2.out)).mono ?_;rintro e w' ⟨rfl,hb'⟩))
    all_goals
     have HF:=hid hb';clear hb' J1 J2 HS b0 b1 b2 b3 b4 b5 b6;go_wp2_with fail
     go_loopw [3,6] (fun v3 v6 wr=>∃j:Nat,j≤n.N.length∧v6= .int .i64 j∧v3= .string (mkB (Q0++itB (n.N.take j) (n.I.take j)))∧Hid (Below w2.heap.size w2 wr)) (fun _ v6 _=>n.N.length - (intOf v6).toNat)
     case atStart=>exact⟨0,Nat.zero_le _,rfl,by rw [List.take_zero,List.take_zero,Jcl,List.append_nil,HS2.out],HF⟩
     case round=>
      obtain⟨j,hj,rfl,rfl,HBr⟩:=hrel;by_cases hlt:j<n.N.length
      ·have hltI:j<n.I.length:=by have:=HO2.out.1;omega
       obtain⟨x,hx⟩:∃x,n.I[j]?=some x:=⟨_,List.getElem?_eq_getElem hltI⟩
       obtain⟨t,ht⟩:∃t,n.N[j]?=some t:=⟨_,List.getElem?_eq_getElem hlt⟩
       have hts:=HO2.out.2 t (List.mem_of_getElem? ht);have hbr:Below W0.heap.size W0 wr:=HB.out.trans ((HB2.out.trans (HBr.out.mono HB2.out.size)).mono hle0);obtain⟨rx,hrx,b,off,hA,hBb,c0,c1,c2,c3,c4,c5,c6⟩:=HN.out.entry hx hbr;obtain⟨⟨bn,on,hAn,hBn,cn⟩,_⟩:=(HN.out.names.keep hbr) j t ht;have i0:(0:Int)≤(j:Int):=by omega
       have i1:(j:Int)<(n.N.length:Int):=by omega
       have i2:(j:Int)<(n.I.length:Int):=by omega
       have htk:=Jea n.N n.I (j+1);have hsn:itB (n.N.take (j+1)) (n.I.take (j+1))=itB (n.N.take j) (n.I.take j)++(be (t.size:Int) 1++(t.data.toList++nb x)):=by
        rw [take_at hx,take_at ht,Jgn _ _ _ _ (by rw [List.length_take,List.length_take];omega)]
       rw [hsn] at htk;simp only [List.length_append,Jad,ext.size_list] at htk;obtain⟨D,hD⟩:=words.nm (Q0++itB (n.N.take j) (n.I.take j));have hDl:D.length=4+(itB (n.N.take j) (n.I.take j)).length:=by rw [hD,List.length_append];omega
       have hD1:D++(be (t.size:Int) 1++t.data.toList)++nb x=Q0++itB (n.N.take (j+1)) (n.I.take (j+1)):=by
        rw [hD,hsn];simp only [List.append_assoc]
       rw [←hD];obtain⟨T0,hT0⟩:=words.nm (mkB D);obtain⟨T1,hT1⟩:=words.nm (mkB (D++(be (t.size:Int) 1++t.data.toList)));obtain⟨T2,hT2⟩:=words.nm (mkB (nb x));have hadd:T1++T2=mkB (Q0++itB (n.N.take (j+1)) (n.I.take (j+1))):=by rw [←hD1,hT1,hT2,Jjc,Jj0]
       have hz1:T1.size=D.length+1+t.size:=by rw [hT1,Ja8];simp only [List.length_append,Jad,ext.size_list];omega
       have hz2:T2.size=(nb x).length:=by rw [hT2,Ja8]
       have hcat:¬9223372036854775807<T1.size+T2.size:=by omega
       rw [←hT0];have HAdd:=hid hadd;have hcx:=Jcq hx;have hdx:=Ja9 hx;obtain⟨b0,b1,b2,b3,b4,b5,b6⟩:=(HX2.out.below HBr.out).cells;have K1:Hid (∀w':World,Below wr.heap.size wr w'→Calls prog 24 #[.string T0,.string t,.int .i64 1] w' fun e w''=>e= .returned (.string T1)∧Below wr.heap.size wr w''):=hid fun w' h=>by
        rw [hT0,hT1];exact (rtext D t 1 w' (by omega) (by omega) (by omega) (by omega)).mono fun _ _ ⟨he,hw⟩=>⟨he,h.trans (hw.mono h.size)⟩
       have K2:Hid (∀w':World,Below wr.heap.size wr w'→Calls prog 13 #[.agg #[.int .i64 x.K,.bool x.O,.slice rx.An x.N.length rx.cn,.slice rx.Ai x.I.length rx.ci,.int .i64 x.S,.slice rx.Ae x.E.length rx.ce,.string x.T]] w' fun e w''=>e= .returned (.string T2)∧Below wr.heap.size wr w''):=hid fun w' h=>by
        rw [hT2];exact (IH.out x rx w' (by omega) hrx (Jjy HAl.out hx) (by omega) (hbr.trans (h.mono hbr.size)) (by omega)).mono fun _ _ ⟨he,hw⟩=>⟨he,h.trans (hw.mono h.size)⟩
       rw [hA] at b3;rw [hAn] at b2;have HS:Hid (∀w':World,Below wr.heap.size wr w'→(w'.cell? ⟨w.heap.size,2,none⟩=some (.slice (some ⟨bn,on,none⟩) n.N.length r.cn)∧w'.cell? ⟨w.heap.size,3,none⟩=some (.slice (some ⟨b,off,none⟩) n.I.length r.ci)∧w'.cell? ⟨bn,on+j,none⟩=some (.string t)∧(w'.cell? ⟨b,off+j*7,none⟩=some (.int .i64 x.K)∧w'.cell? ⟨b,off+j*7+1,none⟩=some (.bool x.O)∧w'.cell? ⟨b,off+j*7+2,none⟩=some (.slice rx.An x.N.length rx.cn)∧w'.cell? ⟨b,off+j*7+3,none⟩=some (.slice rx.Ai x.I.length rx.ci)∧w'.cell? ⟨b,off+j*7+4,none⟩=some (.int .i64 x.S)∧w'.cell? ⟨b,off+j*7+5,none⟩=some (.slice rx.Ae x.E.length rx.ce)∧w'.cell? ⟨b,off+j*7+6,none⟩=some (.string x.T))∧Below wr.heap.size wr w')):=hid fun w' h=>⟨below_cell b2 h,below_cell b3 h,below_cell cn h,⟨below_cell c0 h,below_cell c1 h,below_cell c2 h,below_cell c3 h,below_cell c4 h,below_cell c5 h,below_cell c6 h⟩,h⟩
       have HDr:=hid ((Below.refl wr.heap.size wr).drew);clear hx ht hbr hA hAn hD hD1 hsn hrx hT0 hT1 hT2 hadd hz1 hz2;go_upto_region 16 with fail
       go_region_held3 (fun w'=>w'.cell? ⟨w.heap.size,2,none⟩=some (.slice (some ⟨bn,on,none⟩) n.N.length r.cn)∧w'.cell? ⟨w.heap.size,3,none⟩=some (.slice (some ⟨b,off,none⟩) n.I.length r.ci)∧w'.cell? ⟨bn,on+j,none⟩=some (.string t)∧(w'.cell? ⟨b,off+j*7,none⟩=some (.int .i64 x.K)∧w'.cell? ⟨b,off+j*7+1,none⟩=some (.bool x.O)∧w'.cell? ⟨b,off+j*7+2,none⟩=some (.slice rx.An x.N.length rx.cn)∧w'.cell? ⟨b,off+j*7+3,none⟩=some (.slice rx.Ai x.I.length rx.ci)∧w'.cell? ⟨b,off+j*7+4,none⟩=some (.int .i64 x.S)∧w'.cell? ⟨b,off+j*7+5,none⟩=some (.slice rx.Ae x.E.length rx.ce)∧w'.cell? ⟨b,off+j*7+6,none⟩=some (.string x.T))∧Below wr.heap.size wr w')
        (first |exact HS.out _ (by assumption) |exact HS.out _ HDr.out)
        (first |(go_at_call 24;with_reducible refine (K1.out _ (by first |assumption |exact HDr.out)).mono ?_;rintro e w' ⟨rfl,hb'⟩) |(go_at_call 13;with_reducible refine (K2.out _ (by first |assumption |exact HDr.out)).mono ?_;rintro e w' ⟨rfl,hb'⟩))
       all_goals
        have HBe:=hid (HBr.out.trans (hb'.mono HBr.out.size));clear hb' K1 K2 HS c0 c1 c2 c3 c4 c5 c6 cn b0 b1 b2 b3 b4 b5 b6 hcat;rw [HAdd.out];go_wp2_with fail
        go_roundw
        case rel=>exact⟨j+1,by omega,by go_num,rfl,HBe⟩
        case measure=>simp [intOf];omega
      ·obtain rfl:j=n.N.length:=by omega
       obtain⟨b0,b1,b2,b3,b4,b5,b6⟩:=(HX2.out.below HBr.out).cells;rw [HK.out] at b0;rw [List.take_length,List.take_of_length_le (by have:=HO2.out.1;omega),←Hnb.out];go_wp2_with fail
       go_ret
       exact⟨rfl,HB2.out.trans (HBr.out.mono HB2.out.size)⟩
  ·have ht:=Jrv HOne.out hK
   have hbd:=Jfx hK;rw [hbd] at hl;rw [List.length_append,Jad,ext.size_list] at hl;have p2:Calls prog 24 #[.string (mkB (be n.K 1)),.string n.T,.int .i64 2] w2 fun e w'=>e= .returned (.string (mkB (nb n)))∧Below w2.heap.size w2 w':=
    (rtext (be n.K 1) n.T 2 w2 (by omega) (by omega) (by rw [Jad];omega) (by omega)).mono fun e w' ⟨he,hw⟩=>⟨by rw [he,Jbz,hbd],hw⟩
   have HP2:=hid p2;rw [hK] at b0;clear p2 hK hbd;go_wp2_with fail
   refine HP2.out.mono ?_;rintro e w3 ⟨rfl,hb3⟩;have HB3:=hid (HB2.out.trans (hb3.mono HB2.out.size));clear hb3 HP2 HX2 b0 b1 b2 b3 b4 b5 b6;go_wp2_with fail
   go_ret
   exact⟨rfl,HB3.out⟩
  ·have hbd:nb n=be n.K 1:=by rw [Jbz,Jf7 (by omega) (by omega) (by omega),List.append_nil]
   rw [hK] at b0;have Hbd:=hid hbd;clear hK hbd;go_wp2_with fail
   go_ret
   exact⟨by rw [Hbd.out];rfl,HB2.out⟩
end Go.Proofs.YtcoimjbhoiipoaaGreatDoor.ima
