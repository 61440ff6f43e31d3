import Derived.Test.YtcoimjbhoiipoaaGreatDoorG53
set_option maxHeartbeats 6400000
set_option maxRecDepth 100000
open Go.Lib (hid)
open Go.Proofs.Tryz
namespace Go.Proofs.YtcoimjbhoiipoaaGreatDoor.seen
open Go.RowKit words ext name tre stk

def mayB (T:List Nd):Bool:=decide (T.length≤8)&&T.all fun t=>smallB t&&treeB t
theorem mayB_len {T:List Nd} (h:mayB T=true):T.length≤8:=by
 unfold mayB at h;simp only [Bool.and_eq_true,decide_eq_true_eq] at h;exact h.1
theorem mayB_all {T:List Nd} (h:mayB T=true):∀t∈T,smallB t=true∧treeB t=true:=fun t ht=>by
 unfold mayB at h;simp only [Bool.and_eq_true,decide_eq_true_eq,List.all_eq_true] at h;exact h.2 t ht
theorem Jo7 {T:List Nd} (h1:T.length≤8) (h2:∀t∈T,smallB t=true∧treeB t=true):mayB T=true:=by
 unfold mayB;simp only [Bool.and_eq_true,decide_eq_true_eq,List.all_eq_true];exact⟨h1,h2⟩
theorem Jmw {T:List Nd} (h:8<T.length):mayB T=false:=by
 rcases hm:mayB T with _ |_
 ·rfl
 ·have:=mayB_len hm
  omega
theorem Jok {T:List Nd} {t:Nd} (ht:t∈T) (h:smallB t=false∨treeB t=false):mayB T=false:=by
 rcases hm:mayB T with _ |_
 ·rfl
 ·obtain⟨h1,h2⟩:=mayB_all hm t ht
  rcases h with h |h
  ·rw [h1] at h;cases h
  ·rw [h2] at h;cases h
def mayI (T:List Nd):Int:=if mayB T=true then 1 else 0
theorem mayI_yes {T:List Nd} (h:mayB T=true):mayI T=1:=if_pos h
theorem mayI_no {T:List Nd} (h:mayB T=false):mayI T=0:=by unfold mayI;rw [h];rfl
theorem Jpx {T:List Nd} {k:Nat} {t:Nd} {p:Nd→Prop} (h:∀s∈T.take k,p s) (ht:T[k]?=some t) (hp:p t):∀s∈T.take (k+1),p s:=fun s hs=>by
 obtain⟨hk,htt⟩:=List.getElem?_eq_some_iff.1 ht;rw [List.take_succ_eq_append_getElem hk,htt] at hs;rcases List.mem_append.1 hs with hs |hs
 ·exact h s hs
 ·obtain rfl:s=t:=by simpa using hs
  exact hp
theorem may_any (A:Option Addr) (c:Nat) (T:List Nd) (rs:Nat→Raw) (w:World) (hT:Trees w w.heap.size A T rs):
  Calls prog 5 #[.slice A T.length c] w fun e w'=>e= .returned (.int .i64 (mayI T))∧Below w.heap.size w w':=by
 have HT:=hid hT;clear hT;go_enter func5,ntmps5
 by_cases hn:8<T.length
 ·have g:(8:Int)<(T.length:Int):=by omega
  go_wp2_with fail
  go_ret
  exact⟨by rw [mayI_no (Jmw hn)];rfl,Below.refl _ _⟩
 ·have g:¬(8:Int)<(T.length:Int):=by omega
  go_wp2_with fail
  go_loopw [10] (fun v wr=>∃k:Nat,v= .int .i64 (k:Int)∧k≤T.length∧Hid (∀t∈T.take k,smallB t=true∧treeB t=true)∧Hid (Below w.heap.size w wr)) (fun v _=>T.length - (intOf v).toNat)
  case atStart=>exact⟨0,rfl,Nat.zero_le _,hid (fun t ht=>by simp at ht),hid (Below.refl _ _)⟩
  case round=>
   obtain⟨k,rfl,hk,HSm,HB⟩:=hrel;by_cases hlt:k<T.length
   ·obtain⟨t,ht⟩:∃t,T[k]?=some t:=⟨_,List.getElem?_eq_getElem hlt⟩
    obtain⟨⟨b,off,hA,hb,hcl⟩,hN⟩:=(HT.out.keep HB.out) k t ht;obtain⟨rx,hrx⟩:=words.nm (rs k);rw [←hrx] at hcl hN;subst hA;have c0:wr.cell? ⟨b,off+k*7,none⟩=some (.int .i64 t.K):=hcl 0 _ rfl;have c1':wr.cell? ⟨b,off+k*7+1,none⟩=some (.bool t.O):=hcl 1 _ rfl;have c2:wr.cell? ⟨b,off+k*7+2,none⟩=some (.slice rx.An t.N.length rx.cn):=hcl 2 _ rfl;have c3:wr.cell? ⟨b,off+k*7+3,none⟩=some (.slice rx.Ai t.I.length rx.ci):=hcl 3 _ rfl;have c4:wr.cell? ⟨b,off+k*7+4,none⟩=some (.int .i64 t.S):=hcl 4 _ rfl;have c5:wr.cell? ⟨b,off+k*7+5,none⟩=some (.slice rx.Ae t.E.length rx.ce):=hcl 5 _ rfl;have c6:wr.cell? ⟨b,off+k*7+6,none⟩=some (.string t.T):=hcl 6 _ rfl;have i0:(0:Int)≤(k:Int):=by omega
    have i1:(k:Int)<(T.length:Int):=by omega
    obtain⟨W2,hW2⟩:=words.nm (wr.alloc (.cells (rawCells t rx) 28));have hb2:Below wr.heap.size wr W2:=words.b1 hW2;have hx2:Box W2 wr.heap.size t rx:=by rw [hW2];exact Box.new wr t rx
    have HN2:=hid ((hN.more HB.out.size).later hb2);have HX2:=hid hx2;have HB2:=hid (HB.out.trans (hb2.mono HB.out.size));have HTm:=hid hN.tame;have Ht:=hid ht;unfold rawCells at hW2;have HW2:=hid hW2;clear hcl hN hb2 hx2 ht hW2 hrx;go_upto_region 6 with fail
    rw [←HW2.out];clear c0 c1' c2 c3 c4 c5 c6;obtain⟨b0,b1,b2,b3,b4,b5,b6⟩:=HX2.out.cells;rcases hsm:smallB t with _ |_
    ·have hs:=Jj7 0 t rx W2 HN2.out (by rw [hsm];rfl)
     unfold ndV rawCells at hs;have HS:=hid hs;have HNo:=hid (Jok (List.mem_of_getElem? Ht.out) (.inl hsm));clear hs hsm;go_wp2_with fail
     refine HS.out.mono ?_;rintro e w3 ⟨rfl,hb3⟩;have HB3:=hid (HB2.out.trans (hb3.mono HB2.out.size));clear hb3 HS;go_wp2_with fail
     go_ret
     exact⟨by rw [mayI_no HNo.out];rfl,HB3.out⟩
    ·have hs:=Jj7 1 t rx W2 HN2.out (by rw [hsm];rfl)
     unfold ndV rawCells at hs;have HS:=hid hs;have Hsm:=hid hsm;clear hs hsm;go_wp2_with fail
     refine HS.out.mono ?_;rintro e w3 ⟨rfl,hb3⟩;have HX3:=hid (HX2.out.below hb3);have hdp:=Jeh Hsm.out;have hR:=Jb3 t rx w3 (HN2.out.later hb3) (by omega);rw [←Jfh Hsm.out HTm.out] at hR;unfold ndV rawCells at hR;have HB3:=hid (HB2.out.trans (hb3.mono HB2.out.size));clear b0 b1 b2 b3 b4 b5 b6;obtain⟨b0,b1,b2,b3,b4,b5,b6⟩:=HX3.out.cells;have HR:=hid hR;clear hb3 hR HS;rcases htr:treeB t with _ |_
     ·rw [htr] at HR
      have HNo:=hid (Jok (List.mem_of_getElem? Ht.out) (.inr htr));clear htr;go_wp2_with fail
      refine HR.out.mono ?_;rintro e w4 ⟨rfl,hb4⟩;have HB4:=hid (HB3.out.trans (hb4.mono HB3.out.size));clear hb4 HR;go_wp2_with fail
      go_ret
      exact⟨by rw [mayI_no HNo.out];rfl,HB4.out⟩
     ·rw [htr] at HR
      have HSm':=hid (Jpx HSm.out Ht.out ⟨Hsm.out,htr⟩);clear htr;go_wp2_with fail
      refine HR.out.mono ?_;rintro e w4 ⟨rfl,hb4⟩;have HB4:=hid (HB3.out.trans (hb4.mono HB3.out.size));clear hb4 HR;go_wp2_with fail
      go_roundw
      case rel=>exact⟨k+1,by go_num,by omega,HSm',HB4⟩
      case measure=>simp [intOf];omega
   ·obtain rfl:k=T.length:=by omega
    have hsm:=HSm.out;rw [List.take_length] at hsm;have HYes:=hid (Jo7 (by omega) hsm);go_wp2_with fail
    go_ret
    exact⟨by rw [mayI_yes HYes.out];rfl,HB.out⟩
end Go.Proofs.YtcoimjbhoiipoaaGreatDoor.seen
