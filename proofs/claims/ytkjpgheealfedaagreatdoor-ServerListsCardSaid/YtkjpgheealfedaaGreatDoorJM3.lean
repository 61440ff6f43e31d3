import Derived.Test.YtkjpgheealfedaaGreatDoorJM1
import Derived.Test.YtkjpgheealfedaaGreatDoorJW4
set_option maxHeartbeats 12800000
set_option maxRecDepth 100000
open Go.Lib (hid)
open Go.Proofs.Tryz
namespace Go.Proofs.YtkjpgheealfedaaGreatDoor.mrg
open Go.RowKit words ext name tre stk Go.Proofs.YtkjpgheealfedaaGreatDoor.seen

def insL (s:ByteArray):List ByteArray→List ByteArray
 |[]=>[s]
 |x::l=>if x=s then x::l else if heap.ltB s x=true then s::x::l else x::insL s l
theorem Jht {s:ByteArray}:∀{l:List ByteArray} {x:ByteArray},x∈insL s l↔x=s∨x∈l
 |[],x=>by simp [insL]
 |y::l,x=>by
  have ih:=Jht (s:=s) (l:=l) (x:=x);unfold insL;split
  ·rename_i h
   subst h;simp
  ·split
   ·simp
   ·rw [List.mem_cons,ih,List.mem_cons]
    constructor
    ·rintro (h |h |h)
     ·exact .inr (.inl h)
     ·exact .inl h
     ·exact .inr (.inr h)
    ·rintro (h |h |h)
     ·exact .inr (.inl h)
     ·exact .inl h
     ·exact .inr (.inr h)
theorem Jll {s:ByteArray}:∀{l:List ByteArray},heap.Ris l→heap.Ris (insL s l)
 |[],_=>List.pairwise_singleton _ _
 |y::l,h=>by
  obtain⟨h1,h2⟩:=List.pairwise_cons.1 h;unfold insL;split
  ·exact h
  ·rename_i hne
   split
   ·rename_i hlt
    refine List.pairwise_cons.2 ⟨fun z hz=>?_,h⟩;rcases List.mem_cons.1 hz with rfl |hz
    ·exact hlt
    ·exact heap.ltB_trans hlt (h1 z hz)
   ·rename_i hlt
    refine List.pairwise_cons.2 ⟨fun z hz=>?_,Jll h2⟩;rcases Jht.1 hz with rfl |hz
    ·rcases heap.ltB_tri y z with h3 |h3 |h3
     ·exact h3
     ·exact absurd h3 hne
     ·exact absurd h3 hlt
    ·exact h1 z hz
def InsOut (w:World) (l:List ByteArray) (s:ByteArray) (e:Ending) (w':World):Prop:=
 (∃A' c' N',e= .returned (.slice A' N'.length c')∧heap.Ris N'∧(∀x,x∈N'↔x=s∨x∈l)∧N'.length≤l.length+1∧heap.Row w' w'.heap.size A' N')∧Below w.heap.size w w'
def InsI (s:ByteArray) (l O:List ByteArray) (k:Nat) (b:Bool):Prop:=insL s l=O++(if b then l.drop k else insL s (l.drop k))
theorem drop_at {l:List ByteArray} {k:Nat} {x:ByteArray} (hx:l[k]?=some x):l.drop k=x::l.drop (k+1):=by
 obtain⟨hkl,hxx⟩:=List.getElem?_eq_some_iff.1 hx;rw [List.drop_eq_getElem_cons hkl,hxx]
theorem InsI.on {s x:ByteArray} {l O:List ByteArray} {k:Nat} (h:InsI s l O k true) (hx:l[k]?=some x):InsI s l (O++[x]) (k+1) true:=by
 unfold InsI at*;rw [h,if_pos rfl,if_pos rfl,drop_at hx];simp
theorem InsI.put {s x:ByteArray} {l O:List ByteArray} {k:Nat} (h:InsI s l O k false) (hx:l[k]?=some x) (hne:x≠s) (hlt:heap.ltB s x=true):InsI s l (O++[s]++[x]) (k+1) true:=by
 unfold InsI at*;rw [h,if_neg (by decide),if_pos rfl,drop_at hx,insL,if_neg hne,if_pos hlt];simp
theorem InsI.skip {s x:ByteArray} {l O:List ByteArray} {k:Nat} (h:InsI s l O k false) (hx:l[k]?=some x) (hne:x≠s) (hlt:heap.ltB s x=false):InsI s l (O++[x]) (k+1) false:=by
 unfold InsI at*;rw [h,if_neg (by decide),if_neg (by decide),drop_at hx,insL,if_neg hne,if_neg (by rw [hlt];decide)];simp
theorem InsI.fin {s:ByteArray} {l O:List ByteArray} (h:InsI s l O l.length true):insL s l=O:=by
 unfold InsI at h;rw [h,if_pos rfl,List.drop_length];simp
theorem InsI.fin2 {s:ByteArray} {l O:List ByteArray} (h:InsI s l O l.length false):insL s l=O++[s]:=by
 unfold InsI at h;rw [h,if_neg (by decide),List.drop_length];rfl
theorem InsOut.of {w w':World} {l O:List ByteArray} {s:ByteArray} {v:Value} (hr:heap.Ris l) (he:insL s l=O) (hl:O.length≤l.length+1) (ho:w'.ownsRow w.heap.size 9 1 v O.length (O.map Value.string)) (hb:Below w.heap.size w w'):InsOut w l s (.returned v) w':=by
 obtain⟨A,c,rfl,_,_⟩:=own_facts ho;subst he;exact⟨⟨A,c,_,rfl,Jll hr,fun x=>Jht,hl,Joq ho⟩,hb⟩
theorem Jl2 (A:Option Addr) (c:Nat) (l:List ByteArray) (s:ByteArray) (w:World) (hR:heap.Row w w.heap.size A l) (hr:heap.Ris l) (hs:s.size≤140737488355328) (hl:l.length≤1000000):
  Calls prog 74 #[.slice A l.length c,.string s] w (InsOut w l s):=by
 obtain⟨iS,hiS,zS0,zS1,zS2⟩:=info_parts infoStr;obtain⟨W1,hW1⟩:=words.nm (w.alloc (.cells #[] 9));have hb1:=words.b1 hW1;have HO1:Hid (W1.ownsRow w.heap.size 9 1 (.slice (some ⟨w.heap.size,0,none⟩) 0 0) 0 (([]:List ByteArray).map Value.string)):=hid (by rw [hW1];exact World.ownsRow_made w #[] 0 (Nat.le_refl _) (by decide) rfl);have HB1:=hid hb1;have HR:=hid hR;have HRi:=hid hr;have HW1:=hid hW1;clear hR hr hb1 hW1;go_enter func74,ntmps74
 go_upto_region 2 with fail
 rw [←HW1.out];clear HW1;go_wp2_with fail
 go_loopw [7,5,6] (fun v v5 v6 wr=>∃(k:Nat) (O:List ByteArray) (b:Bool),v= .int .i64 (k:Int)∧v6= .bool b∧k≤l.length∧O.length≤k+1∧(b=false→O.length≤k)∧Hid (InsI s l O k b)∧Hid (wr.ownsRow w.heap.size 9 1 v5 O.length (O.map Value.string))∧Hid (Below w.heap.size w wr)) (fun v _ _ _=>l.length - (intOf v).toNat)
 case atStart=>exact⟨0,[],false,rfl,rfl,Nat.zero_le _,Nat.zero_le _,fun _=>Nat.zero_le _,hid (by simp [InsI]),HO1,HB1⟩
 case round=>
  clear HO1 HB1;obtain⟨k,O,b,rfl,rfl,hk,hO,hO2,HI,HO,HB⟩:=hrel;obtain⟨Ar,cr,rfl,hcr,_⟩:=own_facts HO.out;by_cases hlt:k<l.length
  ·obtain⟨x,hx⟩:∃x,l[k]?=some x:=⟨_,List.getElem?_eq_getElem hlt⟩
   obtain⟨bx,off,hA,hb,x0⟩:=(HR.out.keep HB.out) k _ hx;subst hA;have i0:(0:Int)≤(k:Int):=by omega
   have i1:(k:Int)<(l.length:Int):=by omega
   have HX:=hid hx;by_cases he:x=s
   ·have hne:(x.toList==s.toList)=true:=by rw [he];simp
    have HFin:Hid (∀v,InsOut w l s (.returned (.slice (some ⟨bx,off,none⟩) l.length c)) (wr.drewN v)):=hid fun v=>⟨⟨_,c,l,rfl,HRi.out,fun y=>⟨.inr,fun h=>h.elim (fun h=>by subst h;rw [←he];exact List.mem_of_getElem? hx) id⟩,Nat.le_succ _,(HR.out.keep (heap.below_drewN HB.out v)).more (heap.below_drewN HB.out v).size⟩,heap.below_drewN HB.out v⟩
    have HE:=hid he;clear hx hb he HO HB;go_wp2_with fail
    go_ret
    exact HFin.out 0
   ·have hne:(x.toList==s.toList)=false:=by
     rw [beq_eq_false_iff_ne];exact fun h=>he (heap.toList_inj h)
    have HE:=hid he;clear hx he;rcases b with _ |_
    ·have HL:=hid (heap.rless_any s x wr hs)
     have hO3:=hO2 rfl;go_wp2_with fail
     refine HL.out.mono ?_;rintro e wl ⟨rfl,nl,rfl⟩;have HBl:=hid (heap.below_drewN HB.out nl);have hbl:Below wr.heap.size wr (wr.drewN nl):=heap.below_drewN (Below.refl _ _) nl;have HOl:=hid (ownL HO.out hbl);have x0':=(hbl.cell (p:=⟨bx,off+k,none⟩) (Nat.lt_of_lt_of_le hb HB.out.size)).trans x0;clear hbl HO HL x0;rcases hlt:heap.ltB s x with _ |_
     ·have HI2:=hid (HI.out.skip HX.out HE.out hlt)
      clear hlt HI;obtain⟨Wc1,hWc1⟩:∃Wc,Wc=(wr.drewN nl).alloc (.cells #[.string x] 9):=⟨_,rfl⟩
      have hbc1:Below ((wr.drewN nl)).heap.size ((wr.drewN nl)) Wc1:=words.b1 hWc1;have HNc1:Hid (∀(i:Nat) (u:Value),([.string x]:List Value)[i]?=some u→Wc1.cell? ((⟨((wr.drewN nl)).heap.size,0,none⟩:Addr).add i)=some u):=hid fun i u hi=>by rw [hWc1,Jar];simpa using hi
      have HOc1:=hid (ownL HOl.out hbc1);have HBc1:=hid (HBl.out.trans (hbc1.mono HBl.out.size));have HWc1:=hid hWc1.symm;clear hWc1 hbc1;go_wp2_with (at_builtin;rw [HWc1.out];refine wpList_append_own _ rfl (.tmp 36) (.tmp 41) 47 rfl w.heap.size 9 iS _ 1 16 underlying47 hiS zS0 zS1 zS2 rfl (by omega) (.slice Ar O.length cr) O.length (O.map Value.string) rfl HOc1.out ⟨((wr.drewN nl)).heap.size,0,none⟩ 1 1 [.string x] rfl rfl HNc1.out (by simp [Value.oneCell']) (by simp only [maxLen];omega) (by omega) HBc1.out.size ?_;intro v1 wq1 hownq1 hgrowq1 hnilq1)
      have HBq1:=hid (Jad HBc1.out HOc1.out hgrowq1 (Nat.le_refl _) (Nat.le_refl _));have HOq1:Hid (wq1.ownsRow w.heap.size 9 1 v1 (O++[x]).length ((O++[x]).map Value.string)):=hid (by rw [List.length_append,List.map_append];exact hownq1);clear hownq1 hgrowq1 hnilq1;go_roundw
      case rel=>exact⟨k+1,_,false,by go_num,rfl,by omega,by rw [List.length_append];exact Nat.succ_le_succ hO,fun _=>by rw [List.length_append];exact Nat.succ_le_succ hO3,HI2,HOq1,HBq1⟩
      case measure=>simp [intOf];omega
     ·have HI2:=hid (HI.out.put HX.out HE.out hlt)
      clear hlt HI;obtain⟨Wc2,hWc2⟩:∃Wc,Wc=(wr.drewN nl).alloc (.cells #[.string s] 9):=⟨_,rfl⟩
      have hbc2:Below ((wr.drewN nl)).heap.size ((wr.drewN nl)) Wc2:=words.b1 hWc2;have HNc2:Hid (∀(i:Nat) (u:Value),([.string s]:List Value)[i]?=some u→Wc2.cell? ((⟨((wr.drewN nl)).heap.size,0,none⟩:Addr).add i)=some u):=hid fun i u hi=>by rw [hWc2,Jar];simpa using hi
      have HOc2:=hid (ownL HOl.out hbc2);have HBc2:=hid (HBl.out.trans (hbc2.mono HBl.out.size));have HWc2:=hid hWc2.symm;clear hWc2 hbc2;go_upto_region 10 with (at_builtin;rw [HWc2.out];refine wpList_append_own _ rfl (.tmp 32) (.tmp 34) 47 rfl w.heap.size 9 iS _ 1 16 underlying47 hiS zS0 zS1 zS2 rfl (by omega) (.slice Ar O.length cr) O.length (O.map Value.string) rfl HOc2.out ⟨((wr.drewN nl)).heap.size,0,none⟩ 1 1 [.string s] rfl rfl HNc2.out (by simp [Value.oneCell']) (by simp only [maxLen];omega) (by omega) HBc2.out.size ?_;intro v2 wq2 hownq2 hgrowq2 hnilq2)
      have HBq2:=hid (Jad HBc2.out HOc2.out hgrowq2 (Nat.le_refl _) (Nat.le_refl _));have HOq2:Hid (wq2.ownsRow w.heap.size 9 1 v2 (O++[s]).length ((O++[s]).map Value.string)):=hid (by rw [List.length_append,List.map_append];exact hownq2);clear hownq2 hgrowq2 hnilq2;have x1:=((HBq2.out).cell (p:=⟨bx,off+k,none⟩) hb).trans (((HBl.out).cell (p:=⟨bx,off+k,none⟩) hb).symm.trans x0');have hO4:(O++[s]).length≤k+1:=by rw [List.length_append];exact Nat.succ_le_succ hO3
      obtain⟨Oz,hOz⟩:=words.nm (O++[s]);rw [←hOz] at HOq2 HI2 hO4;clear hOz x0';obtain⟨As,cs,rfl,_,_⟩:=own_facts HOq2.out;obtain⟨Wc3,hWc3⟩:∃Wc,Wc=wq2.alloc (.cells #[.string x] 9):=⟨_,rfl⟩
      have hbc3:Below (wq2).heap.size (wq2) Wc3:=words.b1 hWc3;have HNc3:Hid (∀(i:Nat) (u:Value),([.string x]:List Value)[i]?=some u→Wc3.cell? ((⟨(wq2).heap.size,0,none⟩:Addr).add i)=some u):=hid fun i u hi=>by rw [hWc3,Jar];simpa using hi
      have HOc3:=hid (ownL HOq2.out hbc3);have HBc3:=hid (HBq2.out.trans (hbc3.mono HBq2.out.size));have HWc3:=hid hWc3.symm;clear hWc3 hbc3;go_wp2_with (at_builtin;rw [HWc3.out];refine wpList_append_own _ rfl (.tmp 36) (.tmp 41) 47 rfl w.heap.size 9 iS _ 1 16 underlying47 hiS zS0 zS1 zS2 rfl (by omega) (.slice As Oz.length cs) Oz.length (Oz.map Value.string) rfl HOc3.out ⟨(wq2).heap.size,0,none⟩ 1 1 [.string x] rfl rfl HNc3.out (by simp [Value.oneCell']) (by simp only [maxLen];omega) (by omega) HBc3.out.size ?_;intro v3 wq3 hownq3 hgrowq3 hnilq3)
      have HBq3:=hid (Jad HBc3.out HOc3.out hgrowq3 (Nat.le_refl _) (Nat.le_refl _));have HOq3:Hid (wq3.ownsRow w.heap.size 9 1 v3 (Oz++[x]).length ((Oz++[x]).map Value.string)):=hid (by rw [List.length_append,List.map_append];exact hownq3);clear hownq3 hgrowq3 hnilq3;go_roundw
      case rel=>exact⟨k+1,_,true,by go_num,rfl,by omega,by rw [List.length_append];exact Nat.succ_le_succ hO4,(fun h=>by cases h),HI2,HOq3,HBq3⟩
      case measure=>simp [intOf];omega
    ·have HI2:=hid (HI.out.on HX.out)
     clear HI;obtain⟨Wc4,hWc4⟩:∃Wc,Wc=wr.alloc (.cells #[.string x] 9):=⟨_,rfl⟩
     have hbc4:Below (wr).heap.size (wr) Wc4:=words.b1 hWc4;have HNc4:Hid (∀(i:Nat) (u:Value),([.string x]:List Value)[i]?=some u→Wc4.cell? ((⟨(wr).heap.size,0,none⟩:Addr).add i)=some u):=hid fun i u hi=>by rw [hWc4,Jar];simpa using hi
     have HOc4:=hid (ownL HO.out hbc4);have HBc4:=hid (HB.out.trans (hbc4.mono HB.out.size));have HWc4:=hid hWc4.symm;clear hWc4 hbc4;go_wp2_with (at_builtin;rw [HWc4.out];refine wpList_append_own _ rfl (.tmp 36) (.tmp 41) 47 rfl w.heap.size 9 iS _ 1 16 underlying47 hiS zS0 zS1 zS2 rfl (by omega) (.slice Ar O.length cr) O.length (O.map Value.string) rfl HOc4.out ⟨(wr).heap.size,0,none⟩ 1 1 [.string x] rfl rfl HNc4.out (by simp [Value.oneCell']) (by simp only [maxLen];omega) (by omega) HBc4.out.size ?_;intro v4 wq4 hownq4 hgrowq4 hnilq4)
     have HBq4:=hid (Jad HBc4.out HOc4.out hgrowq4 (Nat.le_refl _) (Nat.le_refl _));have HOq4:Hid (wq4.ownsRow w.heap.size 9 1 v4 (O++[x]).length ((O++[x]).map Value.string)):=hid (by rw [List.length_append,List.map_append];exact hownq4);clear hownq4 hgrowq4 hnilq4;go_roundw
     case rel=>exact⟨k+1,_,true,by go_num,rfl,by omega,by rw [List.length_append];exact Nat.succ_le_succ hO,(fun h=>by cases h),HI2,HOq4,HBq4⟩
     case measure=>simp [intOf];omega
  ·obtain rfl:k=l.length:=by omega
   rcases b with _ |_
   ·have HI2:=hid HI.out.fin2
    have hO3:=hO2 rfl;clear HI;obtain⟨Wc5,hWc5⟩:∃Wc,Wc=wr.alloc (.cells #[.string s] 9):=⟨_,rfl⟩
    have hbc5:Below (wr).heap.size (wr) Wc5:=words.b1 hWc5;have HNc5:Hid (∀(i:Nat) (u:Value),([.string s]:List Value)[i]?=some u→Wc5.cell? ((⟨(wr).heap.size,0,none⟩:Addr).add i)=some u):=hid fun i u hi=>by rw [hWc5,Jar];simpa using hi
    have HOc5:=hid (ownL HO.out hbc5);have HBc5:=hid (HB.out.trans (hbc5.mono HB.out.size));have HWc5:=hid hWc5.symm;clear hWc5 hbc5;go_upto_region 14 with (at_builtin;rw [HWc5.out];refine wpList_append_own _ rfl (.tmp 45) (.tmp 47) 47 rfl w.heap.size 9 iS _ 1 16 underlying47 hiS zS0 zS1 zS2 rfl (by omega) (.slice Ar O.length cr) O.length (O.map Value.string) rfl HOc5.out ⟨(wr).heap.size,0,none⟩ 1 1 [.string s] rfl rfl HNc5.out (by simp [Value.oneCell']) (by simp only [maxLen];omega) (by omega) HBc5.out.size ?_;intro v5 wq5 hownq5 hgrowq5 hnilq5)
    have HBq5:=hid (Jad HBc5.out HOc5.out hgrowq5 (Nat.le_refl _) (Nat.le_refl _));have HOq5:Hid (wq5.ownsRow w.heap.size 9 1 v5 (O++[s]).length ((O++[s]).map Value.string)):=hid (by rw [List.length_append,List.map_append];exact hownq5);clear hownq5 hgrowq5 hnilq5;have HFin:=hid (InsOut.of HRi.out HI2.out (by rw [List.length_append];exact Nat.succ_le_succ hO3) HOq5.out HBq5.out);go_wp2_with fail
    go_ret
    exact HFin.out
   ·have HFin:=hid (InsOut.of HRi.out HI.out.fin hO HO.out HB.out)
    go_wp2_with fail
    go_ret
    exact HFin.out

theorem Jsp {y x:heap.It} (h:heap.leI y x):heap.ltB x.1 y.1=false:=by
 rcases hb:heap.ltB x.1 y.1 with _ |_
 ·rfl
 ·exact absurd (.inl hb) h
theorem Jcq:∀{l:List heap.It} {p:Option ByteArray},l.Pairwise heap.leI→(∀q,p=some q→∀x∈l,heap.ltB x.1 q=false)→∀x∈heap.firstF p l,∀z∈l,z.1=x.1→heap.leI x z
 |[],p,_,_,x,hx,_,_,_=>by cases hx
 |y::l,p,h,hp,x,hx,z,hz,he=>by
  obtain⟨h1,h2⟩:=List.pairwise_cons.1 h;have hy:∀q,some y.1=some q→∀x∈l,heap.ltB x.1 q=false:=fun q hq x hx=>by
   injection hq with hq;rw [←hq];exact Jsp (h1 x hx)
  have hr:=heap.firstF_ris h hp;rw [heap.firstF] at hx hr;by_cases hpy:p=some y.1
  ·rw [if_pos hpy] at hx hr
   rcases List.mem_cons.1 hz with rfl |hz
   ·have h3:=hr.1 _ hpy x hx
    rw [he,heap.ltB_self] at h3;cases h3
   ·exact Jcq h2 (fun q hq x hx=>hp q hq x (List.mem_cons_of_mem _ hx)) x hx z hz he
  ·rw [if_neg hpy] at hx
   rcases List.mem_cons.1 hx with rfl |hx
   ·rcases List.mem_cons.1 hz with rfl |hz
    ·rintro (hc |⟨_,hc⟩)
     ·rw [heap.ltB_self] at hc;cases hc
     ·exact absurd hc (Nat.lt_irrefl _)
    ·exact h1 z hz
   ·rcases List.mem_cons.1 hz with rfl |hz
    ·have h3:=(heap.firstF_ris h2 hy).1 _ rfl x hx
     rw [he,heap.ltB_self] at h3;cases h3
    ·exact Jcq h2 hy x hx z hz he
theorem Jn4 {D:List Nd} {out:List heap.It} (h:heap.Merged (rowsOf D) out) {x:heap.It} (hx:x∈heap.firsts out):∀z∈D.take x.2,∀j:Nat,z.N[j]?≠some x.1:=fun z hz j hj=>by
 obtain⟨k,hk⟩:=List.mem_iff_getElem?.1 hz;rw [List.getElem?_take] at hk;split at hk
 ·rename_i hlt
  have hm:((x.1,k):heap.It)∈heap.allF (rowsOf D):=heap.mem_allF.2 ⟨z.N,by unfold rowsOf;rw [List.getElem?_map,hk];rfl,List.mem_of_getElem? hj⟩;have hle:=Jcq h.2 (fun q hq=>by cases hq) x hx (x.1,k) (h.1.symm.subset hm) rfl;exact hle (.inr ⟨rfl,hlt⟩)
 ·cases hk
theorem Jhz {s:ByteArray}:∀{D Q:List Nd} {k i:Nat} {d y:Nd},EntN s D Q→(∀d∈D,Asc d.N)→D[k]?=some d→d.N[i]?=some s→d.I[i]?=some y→(∀z∈D.take k,∀j:Nat,z.N[j]?≠some s)→Q[0]?=some y
 |[],Q,k,i,d,y,_,_,hk,_,_,_=>by simp at hk
 |c::D,Q,k,i,d,y,⟨o,Q',hh,hq,hr⟩,ha,hk,hi,hy,ht=>by
  rcases k with _ |k
  ·obtain rfl:c=d:=by simpa using hk
   rcases hh with⟨i',z,b1,b2,rfl⟩ |⟨rfl,b1⟩
   ·obtain rfl:=(ha c (List.mem_cons_self ..)).one b1 hi
    rw [b2] at hy;obtain rfl:=Option.some.inj hy;rw [hq];rfl
   ·exact absurd hi (b1 i)
  ·rw [List.take_succ_cons] at ht
   rcases hh with⟨i',z,b1,b2,rfl⟩ |⟨rfl,b1⟩
   ·exact absurd b1 (ht c (List.mem_cons_self ..) i')
   ·rw [hq]
    exact Jhz hr (fun d hd=>ha d (List.mem_cons_of_mem _ hd)) (by simpa using hk) hi hy fun z hz=>ht z (List.mem_cons_of_mem _ hz)
theorem Jgd {y:Nd} {Q:List Nd} (h:Q[0]?=some y) (hk:y.K≠4):(seenOf Q)[0]?=some y:=by
 rcases Q with _ |⟨x,Q⟩
 ·simp at h
 ·obtain rfl:x=y:=by simpa using h
  by_cases h2:x.K=2
  ·obtain⟨e,hl⟩:=Jdl (D:=Q) h2
   rw [e,List.getElem?_take_of_lt (by omega)];rfl
  ·unfold seenOf
   simp only;rw [if_neg hk,if_neg h2];rfl
theorem Jez {y:Nd} {Q:List Nd} (h:Q[0]?=some y) (hk:y.K=4):seenOf Q=[]:=by
 rcases Q with _ |⟨x,Q⟩
 ·simp at h
 ·obtain rfl:x=y:=by simpa using h
  unfold seenOf;simp only;rw [if_pos hk]
theorem Jrd {P:List (Nat×Nat)} {D:List Nd} {s:ByteArray} {x:Nat×Nat} {k i:Nat} {d:Nd} (h:Top P D s x) (hk:D[k]?=some d) (hi:d.N[i]?=some s) (ht:∀z∈D.take k,∀j:Nat,z.N[j]?≠some s):∃p,P[k]?=some p∧x.1=p.1:=by
 obtain⟨k',p,y',i',h1,h2,h3,h4,h5⟩:=h;have e:k'=k:=by
  rcases Nat.lt_trichotomy k' k with hlt |he |hgt
  ·exact absurd h4 (ht y' (List.mem_of_getElem? (by rw [List.getElem?_take,if_pos hlt];exact h3)) i')
  ·exact he
  ·exact absurd hi (h5 d (List.mem_of_getElem? (by rw [List.getElem?_take,if_pos hgt];exact hk)) i)
 subst e;exact⟨p,h1,by rw [h2]⟩
def SawTop (P:List (Nat×Nat)) (k:Nat) (y:Nd) (w:World) (en:Ending) (w':World):Prop:=
 ((y.K=4∧en= .returned (.tuple #[foundV 0 0 0 none 0 0,.bool false]))∨(y.K≠4∧∃(p:Nat×Nat) (id:Int) (A:Option Addr) (n c:Nat),P[k]?=some p∧en= .returned (.tuple #[foundV y.K (p.1:Int) id A n c,.bool true])))∧Below w.heap.size w w'
theorem Saw.top {R:List Nd} {P:List (Nat×Nat)} {D Q':List Nd} {s:ByteArray} {w w':World} {en:Ending} {k i:Nat} {d y:Nd} (h:Saw R P D s Q' w en w') (hQ:EntN s D Q') (ha:∀d∈D,Asc d.N) (hk:D[k]?=some d) (hi:d.N[i]?=some s) (hy:d.I[i]?=some y) (ht:∀z∈D.take k,∀j:Nat,z.N[j]?≠some s):SawTop P k y w en w':=by
 have hh:=Jhz hQ ha hk hi hy ht;refine⟨?_,h.2⟩;by_cases h4:y.K=4
 ·have hs:=Jez hh h4
  rcases h.1 with⟨_,rfl⟩ |⟨x,d',h1,_⟩ |⟨x,d',Q,A,c,h1,_⟩
  ·exact .inl ⟨h4,rfl⟩
  ·rw [hs] at h1;cases h1
  ·rw [hs] at h1;simp at h1
 ·have hs:=Jgd hh h4
  rcases h.1 with⟨h1,_⟩ |⟨x,d',h1,_,_,htop,rfl⟩ |⟨x,d',Q,A,c,h1,_,_,htop,_,_,_,_,rfl,_,_⟩
  ·rw [h1] at hs;simp at hs
  ·rw [h1] at hs
   obtain rfl:d'=y:=by simpa using hs
   obtain⟨p,hp,hx⟩:=Jrd htop hk hi ht;exact .inr ⟨h4,p,_,_,_,_,hp,by rw [hx]⟩
  ·rw [h1] at hs
   obtain rfl:=Option.some.inj hs;obtain⟨p,hp,hx⟩:=Jrd htop hk hi ht;exact .inr ⟨h4,p,_,_,_,_,hp,by rw [hx]⟩
theorem Kinds.names {D:List Nd}:∀{F:List heap.It} {E:List (ByteArray×Int)},Kinds D F E→(E.map Prod.fst).Sublist (F.map Prod.fst)
 |[],E,h=>by
  have h':E=[]:=h;subst h';exact List.Sublist.refl _
 |z::F,E,⟨_,_,y,E',_,_,_,q4,q5⟩=>by
  have ih:=Kinds.names q5;subst q4;split
  ·exact List.Sublist.cons _ ih
  ·exact List.Sublist.cons_cons _ ih
theorem Kinds.drop {D:List Nd}:∀{F:List heap.It} {E:List (ByteArray×Int)} {x:heap.It},Kinds D (x::F) E→∃(d:Nd) (i:Nat) (y:Nd) (E':List (ByteArray×Int)),D[x.2]?=some d∧d.N[i]?=some x.1∧d.I[i]?=some y∧E=(if y.K=4 then [] else [(x.1,y.K)])++E'∧Kinds D F E':=fun h=>h

def EntK (T:List Nd) (s:ByteArray) (E:List (ByteArray×Int)):Prop:=∃Q,EntN s T Q∧E=((seenOf Q)[0]?.map fun y=>(s,y.K)).toList
theorem EntK.uniq {T:List Nd} {s:ByteArray} {E E':List (ByteArray×Int)} (ha:∀d∈T,Asc d.N) (h:EntK T s E) (h':EntK T s E'):E=E':=by
 obtain⟨Q,h1,h2⟩:=h;obtain⟨Q',h3,h4⟩:=h';rw [h2,h4,EntN.uniq ha h1 h3]
theorem EntK.len {T:List Nd} {s:ByteArray} {E:List (ByteArray×Int)} (h:EntK T s E):E.length≤1:=by
 obtain⟨Q,_,rfl⟩:=h;rcases (seenOf Q)[0]? with _ |y<;>simp
def LstK (T:List Nd):List ByteArray→List (ByteArray×Int)→Prop
 |[],E=>E=[]
 |s::N,E=>∃E1 E2,EntK T s E1∧E=E1++E2∧LstK T N E2
theorem LstK.snoc {T:List Nd} {s:ByteArray} {E1:List (ByteArray×Int)} (h1:EntK T s E1):∀{N:List ByteArray} {E:List (ByteArray×Int)},LstK T N E→LstK T (N++[s]) (E++E1)
 |[],E,h=>by
  have h':E=[]:=h;subst h';exact⟨E1,[],h1,by simp,rfl⟩
 |x::N,E,⟨E2,E3,q1,q2,q3⟩=>⟨E2,_,q1,by rw [q2,List.append_assoc],LstK.snoc h1 q3⟩
theorem LstK.uniq {T:List Nd} (ha:∀d∈T,Asc d.N):∀{N:List ByteArray} {E E':List (ByteArray×Int)},LstK T N E→LstK T N E'→E=E'
 |[],E,E',h,h'=>by
  have h1:E=[]:=h;have h2:E'=[]:=h';rw [h1,h2]
 |s::N,E,E',⟨E1,E2,q1,q2,q3⟩,⟨E3,E4,q4,q5,q6⟩=>by rw [q2,q5,EntK.uniq ha q1 q4,LstK.uniq ha q3 q6]
theorem Kinds.ref {D:List Nd} (hD:∀d∈D,Asc d.N∧d.N.length=d.I.length):∀{F:List heap.It} {E:List (ByteArray×Int)},Kinds D F E→(∀x∈F,∀z∈D.take x.2,∀j:Nat,z.N[j]?≠some x.1)→LstK D (F.map Prod.fst) E
 |[],E,h,_=>h
 |x::F,E,⟨d,i,y,E',q1,q2,q3,q4,q5⟩,ht=>by
  obtain⟨Q,hQ⟩:=EntN.some (s:=x.1) (D:=D) fun d hd=>(hD d hd).2;have hh:=Jhz hQ (fun d hd=>(hD d hd).1) q1 q2 q3 (ht x (List.mem_cons_self ..));refine⟨if y.K=4 then [] else [(x.1,y.K)],E',⟨Q,hQ,?_⟩,q4,Kinds.ref hD q5 fun z hz=>ht z (List.mem_cons_of_mem _ hz)⟩;by_cases h4:y.K=4
  ·rw [if_pos h4,Jez hh h4]
   rfl
  ·rw [if_neg h4,Jgd hh h4]
   rfl
structure Nms (w:World) (M:List ByteArray) (n:Nat) (v:Value) (wr:World):Prop where
 ex:∃A c N,v= .slice A N.length c∧heap.Ris N∧(∀s,s∈N↔s∈M)∧N.length≤n∧heap.Row wr wr.heap.size A N
 below:Below w.heap.size w wr
theorem Nms.next {w wr w':World} {M N:List ByteArray} {n:Nat} {s:ByteArray} {v:Value} (hb:Below w.heap.size w wr) (hm:∀s,s∈N↔s∈M) (hn:N.length≤n) (h:InsOut wr N s (.returned v) w'):Nms w (M++[s]) (n+1) v w':=by
 obtain⟨⟨A',c',N',h1,h2,h3,h4,h5⟩,hb'⟩:=h;injection h1 with h1;exact⟨⟨A',c',N',h1,h2,fun x=>by rw [h3,hm,List.mem_append,List.mem_singleton];exact or_comm,by omega,h5⟩,hb.trans (hb'.mono hb.size)⟩
def namesOf (T:List Nd):List ByteArray:=T.flatMap Nd.N
def RefOwn (T:List Nd) (w:World) (e:Ending) (w':World):Prop:=
 (∃N E A c,heap.Ris N∧(∀s,s∈N↔s∈namesOf T)∧LstK T N E∧E.length≤N.length∧e= .returned (.slice A E.length c)∧∃B0,w'.ownsRow B0 56 2 (.slice A E.length c) E.length (E.flatMap enC))∧Below w.heap.size w w'
theorem infoREntry:(Tryz.prog.info? 56).map (fun i=>(i.zero,i.size,i.bytes))=some (some (.agg #[.string ⟨#[]⟩,.int .i64 0]),2,24):=by kernel_rfl
theorem Jid {T:List Nd} {i:Nat} {t:Nd} (h:T[i]?=some t):namesOf (T.take (i+1))=namesOf (T.take i)++t.N:=by
 obtain⟨hkl,hxx⟩:=List.getElem?_eq_some_iff.1 h;unfold namesOf;rw [List.take_succ_eq_append_getElem hkl,hxx,List.flatMap_append];simp
theorem take_at {l:List ByteArray} {j:Nat} {s:ByteArray} (h:l[j]?=some s):l.take (j+1)=l.take j++[s]:=by
 obtain⟨hkl,hxx⟩:=List.getElem?_eq_some_iff.1 h;rw [List.take_succ_eq_append_getElem hkl,hxx]
theorem reflist_own (A:Option Addr) (c:Nat) (T:List Nd) (rs:Nat→Raw) (w:World) (hT:Trees w w.heap.size A T rs) (hl:T.length≤64) (hD:∀d∈T,Asc d.N∧d.N.length=d.I.length) (hct:∀d∈T,d.N.length≤4096):
  Calls prog 36 #[.slice A T.length c] w (RefOwn T w):=by
 obtain⟨iE,hiE,zE0,zE1,zE2⟩:=info_parts infoREntry;obtain⟨W1,hW1⟩:=words.nm (w.alloc (.cells #[] 9));have hb1:=words.b1 hW1;have HN1:Hid (Nms w (namesOf (T.take 0)) 0 (.slice (some ⟨w.heap.size,0,none⟩) 0 0) W1):=hid ⟨⟨_,_,[],rfl,List.Pairwise.nil,fun s=>by simp [namesOf],Nat.le_refl _,fun i s h=>by simp at h⟩,hb1⟩;have HT:=hid hT;have HD:=hid hD;have HCt:=hid hct;have HW1:=hid hW1;clear hT hD hct hW1 hb1;go_enter func36,ntmps36
 go_upto_region 2 with fail
 rw [←HW1.out];clear HW1;go_wp2_with fail
 go_loopw [4,3] (fun v v3 wr=>∃(i:Nat),v= .int .i64 (i:Int)∧i≤T.length∧Hid (Nms w (namesOf (T.take i)) (i*4096) v3 wr)) (fun v _ _=>T.length - (intOf v).toNat)
 case atStart=>exact⟨0,rfl,Nat.zero_le _,HN1⟩
 case round=>
  clear HN1;obtain⟨i,rfl,hi,HN⟩:=hrel;by_cases hlt:i<T.length
  ·obtain⟨t,ht⟩:∃t,T[i]?=some t:=⟨_,List.getElem?_eq_getElem hlt⟩
   obtain⟨wo,hwo⟩:=words.nm (wr);subst hwo;have Ht:=hid ht;have htl:t.N.length≤4096:=HCt.out t (List.mem_of_getElem? ht);have HNT:=hid (Jid ht);clear ht;go_wp2_with fail
   go_loopw [5,3] (fun v v3 wr=>∃(j:Nat),v= .int .i64 (j:Int)∧j≤t.N.length∧Hid (Nms w (namesOf (T.take i)++t.N.take j) (i*4096+j) v3 wr)) (fun v _ _=>t.N.length - (intOf v).toNat)
   case atStart=>exact⟨0,rfl,Nat.zero_le _,hid (by rw [List.take_zero,List.append_nil];exact HN.out)⟩
   case round=>
    clear HN;obtain⟨j,rfl,hj,HN⟩:=hrel;obtain⟨⟨b,off,hA,hb,hc⟩,hNd⟩:=(HT.out.keep HN.out.below) i t Ht.out;subst hA;obtain⟨rx,hrx⟩:=words.nm (rs i);rw [←hrx] at hc hNd;clear hrx;have i0:(0:Int)≤(i:Int):=by omega
    have i1:(i:Int)<(T.length:Int):=by omega
    have j0:(0:Int)≤(j:Int):=by omega
    have q2:wr.cell? ⟨b,off+i*7+2,none⟩=some (.slice rx.An t.N.length rx.cn):=hc 2 _ rfl;by_cases hjl:j<t.N.length
    ·obtain⟨s,hs⟩:∃s,t.N[j]?=some s:=⟨_,List.getElem?_eq_getElem hjl⟩
     have j1:(j:Int)<(t.N.length:Int):=by omega
     obtain⟨⟨b2,off2,hAn,_,q3⟩,hsz⟩:=hNd.names j s hs;rw [hAn] at q2;obtain⟨A3,c3,N,rfl,hr,hm,hn,hrow⟩:=HN.out.ex;have HI:=hid (Jl2 A3 c3 N s wr hrow hr hsz (by omega));have HNX:Hid (∀(v:Value) (w':World),InsOut wr N s (.returned v) w'→Nms w (namesOf (T.take i)++t.N.take (j+1)) (i*4096+(j+1)) v w'):=hid fun v w' h=>by
      have h1:=HN.out.below;rw [take_at hs,←List.append_assoc,←Nat.add_assoc];exact Nms.next h1 hm hn h
     clear hAn hs hb hc hNd hsz hr hm hn hrow HN;go_wp2_with fail
     refine HI.out.mono ?_;rintro e w2 hout;obtain⟨⟨A',c',N',rfl,h2,h3,h4,h5⟩,hb'⟩:=hout;have HN2:=hid (HNX.out _ _ ⟨⟨A',c',N',rfl,h2,h3,h4,h5⟩,hb'⟩);clear h2 h3 h4 h5 hb' HI HNX q2 q3;go_wp2_with fail
     go_roundw
     case rel=>exact⟨j+1,by go_num,by omega,HN2⟩
     case measure=>simp [intOf];omega
    ·obtain rfl:j=t.N.length:=by omega
     have HN2:Hid (Nms w (namesOf (T.take (i+1))) ((i+1)*4096) _ wr):=hid (by
       rw [HNT.out];have h:=HN.out;rw [List.take_length] at h;obtain⟨A3,c3,N,e,hr,hm,hn,hrow⟩:=h.ex;exact⟨⟨A3,c3,N,e,hr,hm,by omega,hrow⟩,h.below⟩)
     clear hc hNd HN;go_wp2_with fail
     go_roundw
     case rel=>exact⟨i+1,by go_num,by omega,HN2⟩
     case measure=>simp [intOf];omega
  ·obtain rfl:i=T.length:=by omega
   obtain⟨A3,c3,N,rfl,hr,hm,hn,hrow⟩:=HN.out.ex;rw [List.take_length] at hm;have HBn:=hid HN.out.below;have HRi:=hid hr;have HMm:=hid hm;have HRo:=hid hrow;have hn6:N.length≤1000000:=by omega
   obtain⟨wo,hwo⟩:=words.nm (wr);subst hwo;obtain⟨W4,hW4⟩:=words.nm (wo.alloc (.cells #[] 56));have hb4:Below wo.heap.size wo W4:=words.b1 hW4;have HO4:Hid (W4.ownsRow wo.heap.size 56 2 (.slice (some ⟨wo.heap.size,0,none⟩) 0 0) 0 (([]:List (ByteArray×Int)).flatMap enC)):=hid (by rw [hW4];exact World.ownsRow_made wo #[] 0 (Nat.le_refl _) (by decide) rfl);have HB4:=hid hb4;have HW4:=hid hW4;clear hr hm hn hrow HN hW4 hb4;go_upto_region 10 with fail
   rw [←HW4.out];clear HW4;go_wp2_with fail
   go_loopw [7,6] (fun v v6 wr=>∃(k:Nat) (E:List (ByteArray×Int)),v= .int .i64 (k:Int)∧k≤N.length∧E.length≤k∧Hid (LstK T (N.take k) E)∧Hid (wr.ownsRow wo.heap.size 56 2 v6 E.length (E.flatMap enC))∧Hid (Below wo.heap.size wo wr)) (fun v _ _=>N.length - (intOf v).toNat)
   case atStart=>exact⟨0,[],rfl,Nat.zero_le _,Nat.le_refl _,hid rfl,HO4,HB4⟩
   case round=>
    clear HO4 HB4;obtain⟨k,E,rfl,hk,hek,HL,HO,HB⟩:=hrel;obtain⟨Ar,cr,rfl,hcr,_⟩:=own_facts HO.out;by_cases hkl:k<N.length
    ·obtain⟨s,hs⟩:∃s,N[k]?=some s:=⟨_,List.getElem?_eq_getElem hkl⟩
     obtain⟨b,off,hA3,hb,x0⟩:=(HRo.out.keep HB.out) k _ hs;subst hA3;have k0:(0:Int)≤(k:Int):=by omega
     have k1:(k:Int)<(N.length:Int):=by omega
     have hBw:=HBn.out.trans (HB.out.mono HBn.out.size);obtain⟨Q',hQ⟩:=EntN.some (s:=s) (D:=T) fun d hd=>(HD.out d hd).2;have HS:=hid (Jg5 HD.out hQ A c rs wr (HT.out.later hBw) (by omega));have HTk:=hid (take_at hs);have HQ:=hid hQ;have Hb:=hid (Nat.lt_of_lt_of_le hb HB.out.size);clear hs hb hBw hQ;go_wp2_with fail
     refine HS.out.mono ?_;rintro e w2 ⟨Aq,cq,rq,rfl,hTq,hcq,hb2⟩;have x1:=(hb2.cell (p:=⟨b,off+k,none⟩) Hb.out).trans x0;clear x0;rcases hq:(seenOf Q') with _ |⟨y,Q2⟩
     ·have HL2:Hid (LstK T (N.take (k+1)) E):=hid (by
        have h:=HL.out.snoc (s:=s) (E1:=[]) ⟨Q',HQ.out,by rw [hq];rfl⟩;rw [HTk.out];rwa [List.append_nil] at h)
      have HO2:=hid (ownL HO.out hb2);have HB2:=hid (HB.out.trans (hb2.mono HB.out.size));clear hTq hcq hb2 hq HS HL HO HB;go_wp2_with fail
      go_roundw
      case rel=>exact⟨k+1,E,by go_num,by omega,by omega,HL2,HO2,HB2⟩
      case measure=>simp [intOf];omega
     ·rw [hq] at hTq hcq
      obtain⟨⟨bq,oq,hAq,_,hc⟩,_⟩:=hTq 0 y rfl;subst hAq;have q0:w2.cell? ⟨bq,oq,none⟩=some (.int .i64 y.K):=by
       have h:=hc 0 (.int .i64 y.K) rfl;simpa using h
      have HL2:Hid (LstK T (N.take (k+1)) (E++[(s,y.K)])):=hid (by
        have h:=HL.out.snoc (s:=s) (E1:=[(s,y.K)]) ⟨Q',HQ.out,by rw [hq];rfl⟩;rw [HTk.out];exact h)
      have HO2:=hid (ownL HO.out hb2);have HB2:=hid (HB.out.trans (hb2.mono HB.out.size));clear hTq hcq hb2 hc hq HS HL HO HB;go_upto_region 15 with fail
      have l0:(0:Int)<((Q2.length:Int)+1):=by omega
      have HOa:=hid (fun o:Obj=>(ownL HO2.out ((Below.refl w2.heap.size w2).drew.alloc (Nat.le_refl _) o)));have HZ:=hid HB2.out.size;go_region_law
       ((refine step_append_lies _ (by rfl) _ _ _ (by rfl) wo.heap.size 56 iE _ 2 24 underlying48 hiE zE0 zE1 zE2 rfl (by omega) (.slice Ar E.length cr) E.length (E.flatMap enC) (by rfl) (HOa.out _)
             ⟨w2.heap.size,0,none⟩ 1 1 [.string s,.int .i64 y.K] (by rfl) (by rfl) (World.news_of_block (cs:=#[.string s,.int .i64 y.K]) (heap_alloc_new w2.drew _)) (by simp [Value.oneCell'])
             (by omega) (by simp only [maxLen];omega) (by omega) (by have h1:=HZ.out;simp;omega) (w2.heap.size+1) (by simp) ?_;intro gg cap w10 hown10 hgrow10 hat10 hlt10))
      all_goals
       have HBq:=hid (Jad (HB2.out.trans (((Below.refl w2.heap.size w2).drew.alloc (Nat.le_refl _) _).mono HZ.out)) (HOa.out _) hgrow10 (Nat.le_refl _) (Nat.le_refl _));have HOq:Hid (w10.ownsRow wo.heap.size 56 2 (.slice (some ⟨gg,0,none⟩) (E.length+1) cap) (E++[(s,y.K)]).length ((E++[(s,y.K)]).flatMap enC)):=hid (by rw [List.length_append,List.flatMap_append];exact hown10);clear hown10 hgrow10 hat10 hlt10 HO2 HB2 HOa x1 q0;go_wp2_with fail
       go_roundw
       case rel=>exact⟨k+1,E++[(s,y.K)],by go_num,by omega,by rw [List.length_append];exact Nat.succ_le_succ hek,HL2,HOq,HBq⟩
       case measure=>simp [intOf];omega
    ·obtain rfl:k=N.length:=by omega
     have HFin:Hid (RefOwn T w (.returned (.slice Ar E.length cr)) wr):=hid ⟨⟨N,E,Ar,cr,HRi.out,HMm.out,by have h:=HL.out;rwa [List.take_length] at h,hek,rfl,_,HO.out⟩,HBn.out.trans (HB.out.mono HBn.out.size)⟩;clear HL HO HB;go_wp2_with fail
     go_ret
     exact HFin.out

theorem Kinds.mem {D:List Nd}:∀{F:List heap.It} {E:List (ByteArray×Int)},Kinds D F E→∀z∈E,∃x∈F,∃(d:Nd) (i:Nat) (y:Nd),z=(x.1,y.K)∧y.K≠4∧D[x.2]?=some d∧d.N[i]?=some x.1∧d.I[i]?=some y
 |[],E,h,z,hz=>by
  have h':E=[]:=h;rw [h'] at hz;cases hz
 |x::F,E,⟨d,i,y,E',q1,q2,q3,q4,q5⟩,z,hz=>by
  rw [q4] at hz;rcases List.mem_append.1 hz with hz |hz
  ·by_cases h4:y.K=4
   ·rw [if_pos h4] at hz;cases hz
   ·rw [if_neg h4] at hz
    exact⟨x,List.mem_cons_self ..,d,i,y,by simpa using hz,h4,q1,q2,q3⟩
  ·obtain⟨x',hx,r⟩:=q5.mem z hz
   exact⟨x',List.mem_cons_of_mem _ hx,r⟩
theorem listed_ref {D:List Nd} (hD:∀d∈D,Asc d.N∧d.N.length=d.I.length) {out:List heap.It} {E E2:List (ByteArray×Int)} {N:List ByteArray} (hm:heap.Merged (rowsOf D) out) (hk:Kinds D (heap.firsts out) E) (hr:heap.Ris N) (hn:∀s,s∈N↔s∈namesOf D) (hl:LstK D N E2):E2=E:=by
 have e:N=(heap.firsts out).map Prod.fst:=heap.ris_eq hr hm.names.1 fun s=>(hn s).trans (Iff.trans (by
   unfold namesOf rowsOf;rw [List.mem_flatMap];constructor
   ·rintro⟨d,h1,h2⟩
    exact⟨d.N,List.mem_map_of_mem h1,h2⟩
   ·rintro⟨l,h1,h2⟩
    obtain⟨d,h3,rfl⟩:=List.mem_map.1 h1;exact⟨d,h3,h2⟩) (hm.names.2 s).symm)
 subst e;exact LstK.uniq (fun d hd=>(hD d hd).1) hl (Kinds.ref hD hk fun x hx=>Jn4 hm hx)
end Go.Proofs.YtkjpgheealfedaaGreatDoor.mrg
