import Derived.Test.YtkjpgheealfedaaGreatDoorJM
set_option maxHeartbeats 6400000
set_option maxRecDepth 100000
open Go.Lib (hid)
open Go.Proofs.Tryz
namespace Go.Proofs.YtkjpgheealfedaaGreatDoor.seen
open Go.RowKit words ext name tre stk

def mayB (T:List Nd):Bool:=decide (T.length≤8)&&T.all fun t=>smallB t&&treeB t
theorem Jlp {T:List Nd} (h:mayB T=true):T.length≤8:=by
 unfold mayB at h;simp only [Bool.and_eq_true,decide_eq_true_eq] at h;exact h.1
theorem Jc1 {T:List Nd} (h:mayB T=true):∀t∈T,smallB t=true∧treeB t=true:=fun t ht=>by
 unfold mayB at h;simp only [Bool.and_eq_true,decide_eq_true_eq,List.all_eq_true] at h;exact h.2 t ht
theorem Jko {T:List Nd} (h1:T.length≤8) (h2:∀t∈T,smallB t=true∧treeB t=true):mayB T=true:=by
 unfold mayB;simp only [Bool.and_eq_true,decide_eq_true_eq,List.all_eq_true];exact⟨h1,h2⟩
theorem Jij {T:List Nd} (h:8<T.length):mayB T=false:=by
 rcases hm:mayB T with _ |_
 ·rfl
 ·have:=Jlp hm
  omega
theorem Jhi {T:List Nd} {t:Nd} (ht:t∈T) (h:smallB t=false∨treeB t=false):mayB T=false:=by
 rcases hm:mayB T with _ |_
 ·rfl
 ·obtain⟨h1,h2⟩:=Jc1 hm t ht
  rcases h with h |h
  ·rw [h1] at h;cases h
  ·rw [h2] at h;cases h
def mayI (T:List Nd):Int:=if mayB T=true then 1 else 0
theorem Jkz {T:List Nd} (h:mayB T=true):mayI T=1:=if_pos h
theorem Jh4 {T:List Nd} (h:mayB T=false):mayI T=0:=by unfold mayI;rw [h];rfl
theorem Jk6 {T:List Nd} {k:Nat} {t:Nd} {p:Nd→Prop} (h:∀s∈T.take k,p s) (ht:T[k]?=some t) (hp:p t):∀s∈T.take (k+1),p s:=fun s hs=>by
 obtain⟨hk,htt⟩:=List.getElem?_eq_some_iff.1 ht;rw [List.take_succ_eq_append_getElem hk,htt] at hs;rcases List.mem_append.1 hs with hs |hs
 ·exact h s hs
 ·obtain rfl:s=t:=by simpa using hs
  exact hp
theorem Jr5 (A:Option Addr) (c:Nat) (T:List Nd) (rs:Nat→Raw) (w:World) (hT:Trees w w.heap.size A T rs):
  Calls prog 5 #[.slice A T.length c] w fun e w'=>e= .returned (.int .i64 (mayI T))∧Below w.heap.size w w':=by
 have HT:=hid hT;clear hT;go_enter func5,ntmps5
 by_cases hn:8<T.length
 ·have g:(8:Int)<(T.length:Int):=by omega
  go_wp2_with fail
  go_ret
  exact⟨by rw [Jh4 (Jij hn)];rfl,Below.refl _ _⟩
 ·have g:¬(8:Int)<(T.length:Int):=by omega
  go_wp2_with fail
  go_loopw [10] (fun v wr=>∃k:Nat,v= .int .i64 (k:Int)∧k≤T.length∧Hid (∀t∈T.take k,smallB t=true∧treeB t=true)∧Hid (Below w.heap.size w wr)) (fun v _=>T.length - (intOf v).toNat)
  case atStart=>exact⟨0,rfl,Nat.zero_le _,hid (fun t ht=>by simp at ht),hid (Below.refl _ _)⟩
  case round=>
   obtain⟨k,rfl,hk,HSm,HB⟩:=hrel;by_cases hlt:k<T.length
   ·obtain⟨t,ht⟩:∃t,T[k]?=some t:=⟨_,List.getElem?_eq_getElem hlt⟩
    obtain⟨⟨b,off,hA,hb,hcl⟩,hN⟩:=(HT.out.keep HB.out) k t ht;obtain⟨rx,hrx⟩:=words.nm (rs k);rw [←hrx] at hcl hN;subst hA;have c0:wr.cell? ⟨b,off+k*7,none⟩=some (.int .i64 t.K):=hcl 0 _ rfl;have c1':wr.cell? ⟨b,off+k*7+1,none⟩=some (.bool t.O):=hcl 1 _ rfl;have c2:wr.cell? ⟨b,off+k*7+2,none⟩=some (.slice rx.An t.N.length rx.cn):=hcl 2 _ rfl;have c3:wr.cell? ⟨b,off+k*7+3,none⟩=some (.slice rx.Ai t.I.length rx.ci):=hcl 3 _ rfl;have c4:wr.cell? ⟨b,off+k*7+4,none⟩=some (.int .i64 t.S):=hcl 4 _ rfl;have c5:wr.cell? ⟨b,off+k*7+5,none⟩=some (.slice rx.Ae t.E.length rx.ce):=hcl 5 _ rfl;have c6:wr.cell? ⟨b,off+k*7+6,none⟩=some (.string t.T):=hcl 6 _ rfl;have i0:(0:Int)≤(k:Int):=by omega
    have i1:(k:Int)<(T.length:Int):=by omega
    obtain⟨W2,hW2⟩:=words.nm (wr.alloc (.cells (rawCells t rx) 70));have hb2:Below wr.heap.size wr W2:=words.b1 hW2;have hx2:Box W2 wr.heap.size t rx:=by rw [hW2];exact Box.new wr t rx
    have HN2:=hid ((hN.more HB.out.size).later hb2);have HX2:=hid hx2;have HB2:=hid (HB.out.trans (hb2.mono HB.out.size));have HTm:=hid hN.tame;have Ht:=hid ht;unfold rawCells at hW2;have HW2:=hid hW2;clear hcl hN hb2 hx2 ht hW2 hrx;go_upto_region 6 with fail
    rw [←HW2.out];clear c0 c1' c2 c3 c4 c5 c6;obtain⟨b0,b1,b2,b3,b4,b5,b6⟩:=HX2.out.cells;rcases hsm:smallB t with _ |_
    ·have hs:=Jfe 0 t rx W2 HN2.out (by rw [hsm];rfl)
     unfold ndV rawCells at hs;have HS:=hid hs;have HNo:=hid (Jhi (List.mem_of_getElem? Ht.out) (.inl hsm));clear hs hsm;go_wp2_with fail
     refine HS.out.mono ?_;rintro e w3 ⟨rfl,hb3⟩;have HB3:=hid (HB2.out.trans (hb3.mono HB2.out.size));clear hb3 HS;go_wp2_with fail
     go_ret
     exact⟨by rw [Jh4 HNo.out];rfl,HB3.out⟩
    ·have hs:=Jfe 1 t rx W2 HN2.out (by rw [hsm];rfl)
     unfold ndV rawCells at hs;have HS:=hid hs;have Hsm:=hid hsm;clear hs hsm;go_wp2_with fail
     refine HS.out.mono ?_;rintro e w3 ⟨rfl,hb3⟩;have HX3:=hid (HX2.out.below hb3);have hdp:=Jck Hsm.out;have hR:=Jd4 t rx w3 (HN2.out.later hb3) (by omega);rw [←Jf2 Hsm.out HTm.out] at hR;unfold ndV rawCells at hR;have HB3:=hid (HB2.out.trans (hb3.mono HB2.out.size));clear b0 b1 b2 b3 b4 b5 b6;obtain⟨b0,b1,b2,b3,b4,b5,b6⟩:=HX3.out.cells;have HR:=hid hR;clear hb3 hR HS;rcases htr:treeB t with _ |_
     ·rw [htr] at HR
      have HNo:=hid (Jhi (List.mem_of_getElem? Ht.out) (.inr htr));clear htr;go_wp2_with fail
      refine HR.out.mono ?_;rintro e w4 ⟨rfl,hb4⟩;have HB4:=hid (HB3.out.trans (hb4.mono HB3.out.size));clear hb4 HR;go_wp2_with fail
      go_ret
      exact⟨by rw [Jh4 HNo.out];rfl,HB4.out⟩
     ·rw [htr] at HR
      have HSm':=hid (Jk6 HSm.out Ht.out ⟨Hsm.out,htr⟩);clear htr;go_wp2_with fail
      refine HR.out.mono ?_;rintro e w4 ⟨rfl,hb4⟩;have HB4:=hid (HB3.out.trans (hb4.mono HB3.out.size));clear hb4 HR;go_wp2_with fail
      go_roundw
      case rel=>exact⟨k+1,by go_num,by omega,HSm',HB4⟩
      case measure=>simp [intOf];omega
   ·obtain rfl:k=T.length:=by omega
    have hsm:=HSm.out;rw [List.take_length] at hsm;have HYes:=hid (Jko (by omega) hsm);go_wp2_with fail
    go_ret
    exact⟨by rw [Jkz HYes.out];rfl,HB.out⟩
theorem rev_at {T:List Nd} {k:Nat} (h:k<T.length):T.reverse[k]?=T[T.length - 1 - k]?:=List.getElem?_reverse h
theorem Jn6 (A:Option Addr) (c:Nat) (T:List Nd) (rs:Nat→Raw) (w:World) (hT:Trees w w.heap.size A T rs) (hl:T.length≤1000):
  Calls prog 10 #[.slice A T.length c] w (TreesOut T.reverse w):=by
 have HT:=hid hT;clear hT;obtain⟨qs,hqs⟩:∃qs:Nat→Raw,qs=fun i=>rs (T.length - 1 - i):=⟨_,rfl⟩
 have HQ:=hid hqs;clear hqs;have hi0:(Tryz.prog.info? 70).map (fun i=>(i.zero,i.size,i.bytes))=some (some (.agg #[.int .i64 0,.bool false,.slice none 0 0,.slice none 0 0,.int .i64 0,.slice none 0 0,.string ⟨#[]⟩]),7,112):=by kernel_rfl
 obtain⟨iS,hiS,zS0,zS1,zS2⟩:=info_parts hi0;clear hi0;go_enter func10,ntmps10
 go_wp2_with fail
 go_loopw [7,3] (fun v v3 wr=>∃k:Nat,v= .int .i64 (k:Int)∧k≤T.length∧Hid (wr.ownsRow w.heap.size 70 7 v3 k (rowCells (T.reverse.take k) qs))∧Hid (Below w.heap.size w wr)) (fun v _ _=>T.length - (intOf v).toNat)
 case atStart=>exact⟨0,rfl,Nat.zero_le _,hid (by rw [List.take_zero];exact World.ownsRow_nil w _ _ _),hid (Below.refl _ _)⟩
 case round=>
  obtain⟨k,rfl,hk,HO,HB⟩:=hrel;obtain⟨Ar,cr,rfl,hcr,_⟩:=own_facts HO.out;by_cases hlt:k<T.length
  ·obtain⟨j,hj⟩:=words.nm (T.length - 1 - k)
   have hjl:j<T.length:=by omega
   obtain⟨x,hx⟩:∃x,T[j]?=some x:=⟨_,List.getElem?_eq_getElem hjl⟩
   obtain⟨⟨b,off,hA,hb,hc⟩,hN⟩:=(HT.out.keep HB.out) j x hx;subst hA;obtain⟨rx,hrx⟩:=words.nm (rs j);rw [←hrx] at hc;have HRx:Hid (rx=qs k):=hid (by rw [HQ.out,hrx,hj]);clear hrx;have g1:IntKind.i64.wrap ((T.length:Int) - 1)=((T.length - 1:Nat):Int):=by rw [IntWalk.i64_in _ (by omega)];omega
   have g2:IntKind.i64.wrap (((T.length - 1:Nat):Int) - (k:Int))=(j:Int):=by rw [IntWalk.i64_in _ (by omega)];omega
   have i0:(0:Int)≤(j:Int):=by omega
   have i1:(j:Int)<(T.length:Int):=by omega
   have q0:wr.cell? ⟨b,off+j*7,none⟩=some (.int .i64 x.K):=hc 0 _ rfl;have q1:wr.cell? ⟨b,off+j*7+1,none⟩=some (.bool x.O):=hc 1 _ rfl;have q2:wr.cell? ⟨b,off+j*7+2,none⟩=some (.slice rx.An x.N.length rx.cn):=hc 2 _ rfl;have q3:wr.cell? ⟨b,off+j*7+3,none⟩=some (.slice rx.Ai x.I.length rx.ci):=hc 3 _ rfl;have q4:wr.cell? ⟨b,off+j*7+4,none⟩=some (.int .i64 x.S):=hc 4 _ rfl;have q5:wr.cell? ⟨b,off+j*7+5,none⟩=some (.slice rx.Ae x.E.length rx.ce):=hc 5 _ rfl;have q6:wr.cell? ⟨b,off+j*7+6,none⟩=some (.string x.T):=hc 6 _ rfl;obtain⟨Wc,hWc⟩:=words.nm (wr.alloc (.cells #[.int .i64 x.K,.bool x.O,.slice rx.An x.N.length rx.cn,.slice rx.Ai x.I.length rx.ci,.int .i64 x.S,.slice rx.Ae x.E.length rx.ce,.string x.T] 70));have hbc:Below wr.heap.size wr Wc:=words.b1 hWc;have HNc:Hid (∀(i:Nat) (u:Value),((rawCells x rx).toList:List Value)[i]?=some u→Wc.cell? ((⟨wr.heap.size,0,none⟩:Addr).add i)=some u):=hid fun i u hi=>by rw [hWc,Jar,←Array.getElem?_toList];exact hi
   have hone:Hid (∀u∈(rawCells x rx).toList,u.oneCell'=true):=hid (by
     have:=Jbg [x] (fun _=>rx);rw [rowCells,rowCells,List.append_nil] at this;exact this)
   have HOc:=hid (ownL HO.out hbc);have HBc:=hid (HB.out.trans (hbc.mono HB.out.size));have HWc:=hid hWc.symm;have HTk:Hid (rowCells (T.reverse.take (k+1)) qs=rowCells (T.reverse.take k) qs++(rawCells x rx).toList):=hid (by
     have hkl:k<T.reverse.length:=by rw [List.length_reverse];exact hlt
     have hxx:T.reverse[k]=x:=by
      have h1:=rev_at hlt;rw [List.getElem?_eq_getElem hkl,←hj,hx] at h1;exact Option.some.inj h1
     rw [List.take_succ_eq_append_getElem hkl,hxx,Jbs,rowCells,rowCells,List.append_nil,List.length_take,Nat.min_eq_left (Nat.le_of_lt hkl),Nat.add_zero,HRx.out])
   have Hj:=hid hj;clear hWc hbc HO hc hN hx hj;go_upto_region 6 with (at_builtin;rw [HWc.out];refine wpList_append_own _ rfl (.tmp 10) (.tmp 19) 22 rfl w.heap.size 70 iS _ 7 112 underlying22 hiS zS0 zS1 zS2 rfl (by omega) (.slice Ar k cr) k (rowCells (T.reverse.take k) qs) rfl HOc.out ⟨wr.heap.size,0,none⟩ 1 1 (rawCells x rx).toList rfl rfl HNc.out hone.out (by simp only [maxLen];omega) (by omega) HBc.out.size ?_;intro v3' wq hownq hgrowq hnilq;obtain⟨Aq,cq,rfl,hcq,_⟩:=own_facts hownq)
   have hBq:=Jad HBc.out HOc.out hgrowq (Nat.le_refl _) (Nat.le_refl _);have HBq:=hid hBq;have HOq:Hid (wq.ownsRow w.heap.size 70 7 (.slice Aq (k+1) cq) (k+1) (rowCells (T.reverse.take (k+1)) qs)):=hid (by rw [HTk.out];exact hownq);clear hownq hgrowq hnilq hBq q0 q1 q2 q3 q4 q5 q6 HTk HOc HBc HWc HNc hone HB;go_wp2_with fail
   go_roundw
   case rel=>exact⟨k+1,by go_num,by omega,HOq,HBq⟩
   case measure=>simp [intOf];omega
  ·obtain rfl:k=T.length:=by omega
   have HFin:Hid (TreesOut T.reverse w (.returned (.slice Ar T.length cr)) wr):=hid (by
     have h:=HO.out;rw [←List.length_reverse,List.take_length] at h;refine⟨Ar,cr,qs,by rw [List.length_reverse],Jdz h fun i y hy=>?_,by rw [List.length_reverse];exact hcr,HB.out⟩;have hi:i<T.length:=by rw [←List.length_reverse];exact (List.getElem?_eq_some_iff.1 hy).1
     rw [rev_at hi] at hy;rw [HQ.out];exact (((HT.out.keep HB.out) _ y hy).2).more HB.out.size)
   clear HO HB;go_wp2_with fail
   go_ret
   exact HFin.out

def StackOut (T:List Nd) (w:World) (e:Ending) (w':World):Prop:=
 ((mayB T=true∧∃A c L,e= .returned (.tuple #[.agg #[.slice A T.length c,.int .i64 (T.length:Int)],.bool true])∧StkOk w' A c L T)∨(mayB T=false∧e= .returned (.tuple #[.agg #[.slice none 0 0,.int .i64 0],.bool false])))∧Below w.heap.size w w'
theorem Jhy {T:List Nd} {w w1:World} (hr:w1.heap[w.heap.size]?=some (.cells #[.slice none 0 0,.int .i64 0] 29 (0,0))) (hb:Below w.heap.size w w1) (hm:mayB T=false):
  ∃W9,W9=(w1.setCell ⟨w.heap.size,0,none⟩ (.slice none 0 0)).setCell ⟨w.heap.size,1,none⟩ (.int .i64 0)∧W9.cell? ⟨w.heap.size,0,none⟩=some (.slice none 0 0)∧W9.cell? ⟨w.heap.size,1,none⟩=some (.int .i64 0)∧StackOut T w (.returned (.tuple #[.agg #[.slice none 0 0,.int .i64 0],.bool false])) W9:=by
 have h9:=over2 (u0:= .slice none 0 0) (u1:= .int .i64 0) hr;exact⟨_,rfl,Jaa h9 0,Jaa h9 1,.inr ⟨hm,rfl⟩,(hb.setCell (p:=⟨w.heap.size,0,none⟩) (Nat.le_refl _) _).setCell (p:=⟨w.heap.size,1,none⟩) (Nat.le_refl _) _⟩
theorem Jm6 (A:Option Addr) (c:Nat) (T:List Nd) (rs:Nat→Raw) (m:Int) (w:World) (hT:Trees w w.heap.size A T rs) (hm:w.cell? ⟨0,0,none⟩=some (.int .i64 m)):
  Calls prog 6 #[.slice A T.length c] w (StackOut T w):=by
 obtain⟨W1,hW1⟩:=words.nm (w.alloc (.cells #[.slice none 0 0,.int .i64 0] 29));have hb1:=words.b1 hW1;have HR:=hid (show W1.heap[w.heap.size]?=some (.cells #[.slice none 0 0,.int .i64 0] 29 (0,0)) by rw [hW1];exact heap_alloc_new w _);have HM:=hid (Jae hm hb1);have HT:=hid (hT.later hb1);have HB1:=hid hb1;have HW1:=hid hW1;clear hW1 hb1 hT hm;go_enter func6,ntmps6
 go_upto_region 1 with fail
 rw [←HW1.out];clear HW1;by_cases hn:8<T.length
 ·have g:(8:Int)<(T.length:Int):=by omega
  have r0:=Jaa HR.out 0;have r1:=Jaa HR.out 1;have z0:=Jab HR.out 0;have z1:=Jab HR.out 1;obtain⟨W9,hW9,e0,e1,hO⟩:=Jhy (T:=T) HR.out HB1.out (Jij hn);have HO:=hid hO;clear hO;go_wp2_with fail
  rw [←hW9];exact bodyPost_ret (v:= .tuple #[.agg #[.slice none 0 0,.int .i64 0],.bool false]) (by simp [results,results6,go_sem,e0,e1]) rfl HO.out
 ·have g:¬(8:Int)<(T.length:Int):=by omega
  go_wp2_with fail
  go_loopw [14] (fun v wr=>∃k:Nat,v= .int .i64 (k:Int)∧k≤T.length∧Hid (∀t∈T.take k,smallB t=true∧treeB t=true)∧Hid (Below W1.heap.size W1 wr)) (fun v _=>T.length - (intOf v).toNat)
  case atStart=>exact⟨0,rfl,Nat.zero_le _,hid (fun t ht=>by simp at ht),hid (Below.refl _ _)⟩
  case round=>
   obtain⟨k,rfl,hk,HSm,HB⟩:=hrel;by_cases hlt:k<T.length
   ·obtain⟨t,ht⟩:∃t,T[k]?=some t:=⟨_,List.getElem?_eq_getElem hlt⟩
    obtain⟨⟨b,off,hA,hb,hcl⟩,hN⟩:=(HT.out.keep HB.out) k t ht;obtain⟨rx,hrx⟩:=words.nm (rs k);rw [←hrx] at hcl hN;subst hA;have c0:wr.cell? ⟨b,off+k*7,none⟩=some (.int .i64 t.K):=hcl 0 _ rfl;have c1':wr.cell? ⟨b,off+k*7+1,none⟩=some (.bool t.O):=hcl 1 _ rfl;have c2:wr.cell? ⟨b,off+k*7+2,none⟩=some (.slice rx.An t.N.length rx.cn):=hcl 2 _ rfl;have c3:wr.cell? ⟨b,off+k*7+3,none⟩=some (.slice rx.Ai t.I.length rx.ci):=hcl 3 _ rfl;have c4:wr.cell? ⟨b,off+k*7+4,none⟩=some (.int .i64 t.S):=hcl 4 _ rfl;have c5:wr.cell? ⟨b,off+k*7+5,none⟩=some (.slice rx.Ae t.E.length rx.ce):=hcl 5 _ rfl;have c6:wr.cell? ⟨b,off+k*7+6,none⟩=some (.string t.T):=hcl 6 _ rfl;have i0:(0:Int)≤(k:Int):=by omega
    have i1:(k:Int)<(T.length:Int):=by omega
    obtain⟨W2,hW2⟩:=words.nm (wr.alloc (.cells (rawCells t rx) 70));have hb2:Below wr.heap.size wr W2:=words.b1 hW2;have hx2:Box W2 wr.heap.size t rx:=by rw [hW2];exact Box.new wr t rx
    have HN2:=hid ((hN.more HB.out.size).later hb2);have HX2:=hid hx2;have HB2:=hid (HB.out.trans (hb2.mono HB.out.size));have HTm:=hid hN.tame;have Ht:=hid ht;unfold rawCells at hW2;have HW2:=hid hW2;clear hcl hN hb2 hx2 ht hW2 hrx;go_upto_region 6 with fail
    rw [←HW2.out];clear c0 c1' c2 c3 c4 c5 c6;obtain⟨b0,b1,b2,b3,b4,b5,b6⟩:=HX2.out.cells;rcases hsm:smallB t with _ |_
    ·have hs:=Jfe 0 t rx W2 HN2.out (by rw [hsm];rfl)
     unfold ndV rawCells at hs;have HS:=hid hs;have HNo:=hid (Jhi (List.mem_of_getElem? Ht.out) (.inl hsm));clear hs hsm;go_wp2_with fail
     refine HS.out.mono ?_;rintro e w3 ⟨rfl,hb3⟩;have HB3:=hid (HB2.out.trans (hb3.mono HB2.out.size));clear hb3 HS;have hr3:=(HB3.out.block _ (lt_of_some HR.out)).trans HR.out;have r0:=Jaa hr3 0;have r1:=Jaa hr3 1;have z0:=Jab hr3 0;have z1:=Jab hr3 1;obtain⟨W9,hW9,e0,e1,hO⟩:=Jhy (T:=T) hr3 (HB1.out.trans (HB3.out.mono HB1.out.size)) HNo.out;have HO:=hid hO;clear hO;go_wp2_with fail
     rw [←hW9];exact bodyPost_ret (v:= .tuple #[.agg #[.slice none 0 0,.int .i64 0],.bool false]) (by simp [results,results6,go_sem,e0,e1]) rfl HO.out
    ·have hs:=Jfe 1 t rx W2 HN2.out (by rw [hsm];rfl)
     unfold ndV rawCells at hs;have HS:=hid hs;have Hsm:=hid hsm;clear hs hsm;go_wp2_with fail
     refine HS.out.mono ?_;rintro e w3 ⟨rfl,hb3⟩;have HX3:=hid (HX2.out.below hb3);have hdp:=Jck Hsm.out;have hR:=Jd4 t rx w3 (HN2.out.later hb3) (by omega);rw [←Jf2 Hsm.out HTm.out] at hR;unfold ndV rawCells at hR;have HB3:=hid (HB2.out.trans (hb3.mono HB2.out.size));clear b0 b1 b2 b3 b4 b5 b6;obtain⟨b0,b1,b2,b3,b4,b5,b6⟩:=HX3.out.cells;have HR:=hid hR;clear hb3 hR HS;rcases htr:treeB t with _ |_
     ·rw [htr] at HR
      have HNo:=hid (Jhi (List.mem_of_getElem? Ht.out) (.inr htr));clear htr;go_wp2_with fail
      refine HR.out.mono ?_;rintro e w4 ⟨rfl,hb4⟩;have HB4:=hid (HB3.out.trans (hb4.mono HB3.out.size));clear hb4 HR;have hr3:=(HB4.out.block _ (lt_of_some HR.out)).trans HR.out;have r0:=Jaa hr3 0;have r1:=Jaa hr3 1;have z0:=Jab hr3 0;have z1:=Jab hr3 1;obtain⟨W9,hW9,e0,e1,hO⟩:=Jhy (T:=T) hr3 (HB1.out.trans (HB4.out.mono HB1.out.size)) HNo.out;have HO:=hid hO;clear hO;go_wp2_with fail
      rw [←hW9];exact bodyPost_ret (v:= .tuple #[.agg #[.slice none 0 0,.int .i64 0],.bool false]) (by simp [results,results6,go_sem,e0,e1]) rfl HO.out
     ·rw [htr] at HR
      have HSm':=hid (Jk6 HSm.out Ht.out ⟨Hsm.out,htr⟩);clear htr;go_wp2_with fail
      refine HR.out.mono ?_;rintro e w4 ⟨rfl,hb4⟩;have HB4:=hid (HB3.out.trans (hb4.mono HB3.out.size));clear hb4 HR;go_wp2_with fail
      go_roundw
      case rel=>exact⟨k+1,by go_num,by omega,HSm',HB4⟩
      case measure=>simp [intOf];omega
   ·obtain rfl:k=T.length:=by omega
    have hsm:=HSm.out;rw [List.take_length] at hsm;have hyes:=Jko (by omega) hsm;have hfine:∀t∈T,depth t≤1000∧(treeB t=true→countC t=(count t:Int)∧count t≤4096):=fun t ht=>by
     obtain⟨i,hi⟩:=List.mem_iff_getElem?.1 ht;have ho:=Jjs (hsm t ht).1 (HT.out i t hi).2.tame (hsm t ht).2;exact⟨by have:=ho.dep;omega,fun _=>⟨ho.cc,by have:=ho.cnt;omega⟩⟩
    have HC:=hid (Jlh A c T rs m wr (HT.out.later HB.out) (Jae HM.out HB.out) hfine (by omega));have HYes:=hid hyes;have HSm:=hid hsm;clear hyes hsm hfine;go_wp2_with fail
    refine HC.out.mono ?_;rintro e w7 hof;rcases hof with⟨A',c',L,rfl,hok,_,_,hb7⟩ |⟨er,_,hbad,_⟩
    ·obtain⟨W8,hW8⟩:=words.nm (w7.alloc (.cells #[.slice A' T.length c',.int .i64 (T.length:Int)] 29))
     have hb8:Below w7.heap.size w7 W8:=words.b1 hW8;have hk8:W8.heap[w7.heap.size]?=some (.cells #[.slice A' T.length c',.int .i64 (T.length:Int)] 29 (0,0)):=by rw [hW8];exact heap_alloc_new w7 _
     have hb17:=HB.out.trans (hb7.mono HB.out.size);have hb18:=hb17.trans (hb8.mono hb17.size);have hr8:=(hb18.block _ (lt_of_some HR.out)).trans HR.out;have HOk:Hid (StkP W8 (fun b=>w.heap.size<b∧b<W8.heap.size) A' c' L T):=hid (hok.keep fun b hb=>⟨hb8.block b hb.2,by
       have h1:=lt_of_some ((HB.out.block _ (lt_of_some HR.out)).trans HR.out);exact Nat.lt_of_lt_of_le h1 hb.1,Nat.lt_of_lt_of_le hb.2 hb8.size⟩)
     have HB8:=hid (HB1.out.trans (hb18.mono HB1.out.size));have HK8:=hid hk8;have HR8:=hid hr8;have HW8:=hid hW8;have hne:w.heap.size<w7.heap.size:=lt_of_some ((hb17.block _ (lt_of_some HR.out)).trans HR.out);clear hok hb7 hb8 hk8 hb17 hb18 hr8 hW8 HC;unfold stkV;go_upto_region 10 with fail
     rw [←HW8.out];clear HW8;have gg:((T.length:Int)==(T.length:Int))=true:=by simp
     have HL:=hid (fun (w':World)=>show Calls prog 19 #[.agg #[.slice A' T.length c',.int .i64 (T.length:Int)]] w' fun e w''=>e= .returned (.int .i64 (T.length:Int))∧Below w'.heap.size w' w'' from Jcx A' T.length c' (T.length:Int) w');obtain⟨V,hV⟩:=words.nm (W8.drew);have hVb:∀b:Nat,V.heap[b]?=W8.heap[b]?:=fun b=>by rw [hV];rfl
     have hVs:V.heap.size=W8.heap.size:=by rw [hV];rfl
     have HBV:=hid (show Below w.heap.size w V by rw [hV];exact HB8.out.trans ((Below.refl _ _).drew));have HRV:=hid ((hVb _).trans HR8.out);have HKV:=hid ((hVb _).trans HK8.out);have HVb:=hid hVb;have HVs:=hid hVs;have HFin:Hid (∀Wf:World,(∀b:Nat,w.heap.size<b→b<W8.heap.size→Wf.heap[b]?=V.heap[b]?)→V.heap.size≤Wf.heap.size→Below w.heap.size w Wf→StackOut T w (.returned (.tuple #[.agg #[.slice A' T.length c',.int .i64 (T.length:Int)],.bool true])) Wf):=hid fun Wf h1 h2 h3=>
      ⟨.inl ⟨HYes.out,A',c',L,rfl,(HOk.out.keep (P':=fun b=>b<Wf.heap.size) fun b hb=>⟨(h1 b hb.1 hb.2).trans (HVb.out b),Nat.lt_of_lt_of_le hb.2 (by rw [←HVs.out];exact h2)⟩).ok fun b hb=>hb⟩,h3⟩
     have Hne:=hid hne;refine wp_region_held_drew (S:=fun w'=>w'.cell? ⟨w7.heap.size,0,none⟩=some (.slice A' T.length c')∧w'.cell? ⟨w7.heap.size,1,none⟩=some (.int .i64 (T.length:Int))) (by kernel_rfl) ⟨by rw [←hV];exact Jaa HKV.out 0,by rw [←hV];exact Jaa HKV.out 1⟩ (fun hHeld=>?_);rw [←hV] at hHeld ⊢;clear hV hVb hVs HR8 HB8 HK8 HOk HYes hne;refine words.tk 0 33 (v:=?_) ?_ ?_
     rotate_left 1
     ·intro _ h;(try dsimp only at h);go_simp;(try with_reducible rfl)
     try simp only [words.pt]
     refine words.tk 1 34 (v:=?_) ?_ ?_
     rotate_left 1
     ·intro _ h;(try dsimp only at h);go_simp;(try with_reducible rfl)
     try simp only [words.pt]
     refine words.tk 2 35 (v:=?_) ?_ ?_
     rotate_left 1
     ·intro _ h;(try dsimp only at h);go_simp;(try with_reducible rfl)
     try simp only [words.pt]
     refine words.tk 3 36 (v:=?_) ?_ ?_
     rotate_left 1
     ·intro _ h;(try dsimp only at h);go_simp;(try with_reducible rfl)
     try simp only [words.pt]
     refine words.tk 4 37 (v:=?_) ?_ ?_
     rotate_left 1
     ·intro _ h;(try dsimp only at h);go_simp;(try with_reducible rfl)
     try simp only [words.pt]
     refine words.tk 6 39 (v:=?_) ?_ ?_
     rotate_left 1
     ·intro _ h;(try dsimp only at h);go_simp;(try with_reducible rfl)
     try simp only [words.pt]
     refine words.tk 7 40 (v:=?_) ?_ ?_
     rotate_left 1
     ·intro _ h;(try dsimp only at h);go_simp;(try with_reducible rfl)
     try simp only [words.pt]
     refine wpAnyH_ready (rs:=[5]) (by kernel_rfl) (by simp) (.cons rfl (fun K hK=>?_) .nil);go_simp
     go_at_call 19
     refine (HL.out _).mono ?_;rintro en w9 ⟨rfl,hw9⟩;clear hHeld;have HRn:=hid ((hw9.block _ (lt_of_some HRV.out)).trans HRV.out);have HKn:=hid ((hw9.block _ (lt_of_some HKV.out)).trans HKV.out);have HBn:=hid (HBV.out.trans (hw9.mono HBV.out.size));have HW9:=hid hw9;clear hw9;refine hK.out _ _ ⟨Jaa HKn.out 0,Jaa HKn.out 1⟩ (fun hHeld=>?_);clear hK;refine words.tk 8 41 (v:=?_) ?_ ?_
     rotate_left 1
     ·intro _ h;(try dsimp only at h);go_simp;(try with_reducible rfl)
     try simp only [words.pt]
     refine words.tk 9 42 (v:=?_) ?_ ?_
     rotate_left 1
     ·intro _ h;(try dsimp only at h);go_simp;(try with_reducible rfl)
     try simp only [words.pt]
     refine wpAnyH_ready (rs:=[10]) (by kernel_rfl) (by simp) (.cons rfl (fun K hK=>?_) .nil);clear hHeld;have r0:=Jaa HRn.out 0;have r1:=Jaa HRn.out 1;have z0:=Jab HRn.out 0;have z1:=Jab HRn.out 1;obtain⟨wf,hwf⟩:=words.nm ((w9.setCell ⟨w.heap.size,0,none⟩ (.slice A' T.length c')).setCell ⟨w.heap.size,1,none⟩ (.int .i64 (T.length:Int)));have hot:∀b:Nat,b≠w.heap.size→wf.heap[b]?=w9.heap[b]?:=fun b hb=>by rw [hwf,heap_setCell_other _ _ _ _ hb,heap_setCell_other _ _ _ _ hb]
     have hsz:wf.heap.size=w9.heap.size:=by rw [hwf];simp
     have HU2:=hid (over2 (u0:= .slice A' T.length c') (u1:= .int .i64 (T.length:Int)) HRn.out);rw [←hwf] at HU2;have hbf:Below w.heap.size w wf:=by rw [hwf];exact (HBn.out.setCell (p:=⟨w.heap.size,0,none⟩) (Nat.le_refl _) _).setCell (p:=⟨w.heap.size,1,none⟩) (Nat.le_refl _) _
     have HKf:=hid ((hot _ (Nat.ne_of_gt Hne.out)).trans HKn.out);go_simp
     rw [←hwf];refine hK.out _ _ ⟨Jaa HKf.out 0,Jaa HKf.out 1⟩ (fun hHeld=>?_);clear hK r0 r1 z0 z1;refine words.tk 11 3 (v:=?_) ?_ ?_
     rotate_left 1
     ·intro _ h;(try dsimp only at h);go_simp;(try with_reducible rfl)
     try simp only [words.pt]
     have HU:=HU2;have HO:=hid (HFin.out wf (fun b h1 h2=>(hot b (Nat.ne_of_gt h1)).trans (HW9.out.block b (by rw [HVs.out];exact h2))) (by rw [hsz];exact HW9.out.size) hbf);clear hot hsz hwf hbf;refine wpAnyH_done (by kernel_rfl) ?_ _;have p0:=Jaa HU.out 0;have p1:=Jaa HU.out 1;clear hHeld;go_wp2_with fail
     exact bodyPost_ret (v:= .tuple #[.agg #[.slice A' T.length c',.int .i64 (T.length:Int)],.bool true]) (by simp [results,results6,go_sem,p0,p1]) rfl HO.out
    ·exfalso
     rcases hbad with⟨_,t,ht,hf⟩ |⟨_,hlt⟩
     ·rw [(HSm.out t ht).2] at hf;cases hf
     ·omega

theorem Jk5 {R:List Nd}:∀E∈tabs R,∃e,E[0]?=some e:=fun E hE=>by
 unfold tabs at hE;obtain⟨t,ht,rfl⟩:=List.mem_map.1 hE;exact⟨_,Jcs (k:=0) (x:=t) (by rw [Jdf];rfl)⟩
end Go.Proofs.YtkjpgheealfedaaGreatDoor.seen
