import Derived.Test.YtekekhgjobahaaaGreatDoorA2
set_option maxHeartbeats 12800000
set_option maxRecDepth 100000
open Go.Proofs.Tryz
namespace Go.Proofs.YtekekhgjobahaaaGreatDoor.tal
open Go.RowKit words

theorem Two.of_own {w:World} {B:Nat} {A:Option Addr} {c:Nat} {x y:Rc} (h:w.ownsRow B 59 19 (.slice A 2 c) 2 (x.cs++y.cs)):∃g,A=some ⟨g,0,none⟩∧B≤g∧Two w g x y:=by
 rcases h.2 with⟨_,h0⟩ |⟨g,cap,cur,hv,hb,hg,hle,_,hs,ht⟩
 ·omega
 ·injection hv with hv
  exact⟨g,hv,hb,cur,hg,by omega,ht⟩
theorem Two.same {w:World} {g k:Nat} {x y:Rc} {v:Value} (h:Two w g x y) (hc:w.cell? ⟨g,k,none⟩=some v):Two (w.setCell ⟨g,k,none⟩ v) g x y:=by
 obtain⟨cur,h1,h2,h3⟩:=h;have hk:cur[k]?=some v:=by rw [←Jaa h1];exact hc
 have e:cur.setIfInBounds k v=cur:=by
  apply Array.ext_getElem?;intro i;rw [Array.getElem?_setIfInBounds];split
  ·rename_i hi
   subst hi;split
   ·exact hk.symm
   ·rename_i hn
    rw [Array.getElem?_eq_none (by omega)]
  ·rfl
 refine⟨cur,?_,h2,h3⟩;simp [World.setCell,Array.getElem?_modify,h1,e]
def Bare (x:Rc):Prop:=x.cs[14]?=some (.slice none 0 0)
theorem Jek (w:World):Calls prog 88 #[.slice none 0 0] w fun e w'=>e= .returned (.slice none 0 0)∧w'=w:=by
 have heq0:=fun wx=>Lib.run_eql_slice_nil (P:=prog) wx 27 9 none 0 0 0 0 underlying27;go_enter func88,ntmps88
 go_wp2_with fail
 go_ret
 exact⟨rfl,rfl⟩

def Txs (w:World) (A:Option Addr) (Q:List ByteArray):Prop:=∀i x,Q[i]?=some x→∃b off,A=some ⟨b,off,none⟩∧b<w.heap.size∧w.cell? ⟨b,off+i,none⟩=some (.string x)
theorem Txs.later {w w':World} {A:Option Addr} {Q:List ByteArray} (h:Txs w A Q) (hb:Below w.heap.size w w'):Txs w' A Q:=fun i x hx=>by
 obtain⟨b,off,h1,h2,h3⟩:=h i x hx;exact⟨b,off,h1,Nat.lt_of_lt_of_le h2 hb.size,(hb.cell (p:=⟨b,off+i,none⟩) h2).trans h3⟩
theorem Txs.low {w w':World} {B:Nat} {A:Option Addr} {Q:List ByteArray} (h:Txs w A Q) (hl:∀b o,A=some ⟨b,o,none⟩→b<B) (hb:Below B w w'):Txs w' A Q:=fun i x hx=>by
 obtain⟨b,off,h1,h2,h3⟩:=h i x hx;exact⟨b,off,h1,Nat.lt_of_lt_of_le h2 hb.size,(hb.cell (p:=⟨b,off+i,none⟩) (hl b off h1)).trans h3⟩
theorem to_list {a b:ByteArray}:(a.toList==b.toList)=decide (a=b):=by
 rw [Bool.eq_iff_iff];simp only [beq_iff_eq,decide_eq_true_eq];rw [ByteArray.toList_eq,ByteArray.toList_eq];constructor
 ·intro h
  have:=Array.toList_inj.1 h;cases a;cases b;simp_all
 ·rintro rfl;rfl
theorem Jpf {Q Q':List ByteArray} {k:Nat} (hn:Q.length=Q'.length) (hk:Q.length≤k) (h:∀j,j<k→Q[j]?=Q'[j]?):Q=Q':=by
 apply List.ext_getElem?;intro i;rcases Nat.lt_or_ge i k with h1 |h1
 ·exact h i h1
 ·rw [List.getElem?_eq_none (by omega),List.getElem?_eq_none (by omega)]
theorem Jsv (A:Option Addr) (c:Nat) (Q:List ByteArray) (A':Option Addr) (c':Nat) (Q':List ByteArray) (w:World) (h:Txs w A Q) (h':Txs w A' Q') (hl:Q.length≤9223372036854775807) (hl':Q'.length≤9223372036854775807):
  Calls prog 126 #[.slice A Q.length c,.slice A' Q'.length c'] w fun e w'=>e= .returned (.bool (decide (Q=Q')))∧Below w.heap.size w w':=by
 have K1:=Lib.hid h;have K2:=Lib.hid h';clear h h';by_cases hn:Q.length=Q'.length
 ·have HN:=Lib.hid hn
  have hne:((Q.length:Int) !=(Q'.length:Int))=false:=by rw [hn];exact bne_self_eq_false _
  obtain⟨n',hn'⟩:∃n',n'=Q'.length:=⟨_,rfl⟩
  rw [←hn'] at hne ⊢;have HN':=Lib.hid hn';clear hn hn';go_enter func126,ntmps126
  go_wp2_with fail
  go_loopw [13] (fun v wr=>∃k:Nat,k≤Q.length∧v= .int .i64 (k:Int)∧Hid (∀j,j<k→Q[j]?=Q'[j]?)∧∃nd,wr=w.drewN nd) (fun v _=>Q.length - (intOf v).toNat)
  case atStart=>exact⟨0,Nat.zero_le _,rfl,Lib.hid fun j h=>absurd h (Nat.not_lt_zero _),0,rfl⟩
  case round=>
   obtain⟨k,hk,rfl,HE,nd,rfl⟩:=hrel;by_cases hlt:k<Q.length
   ·obtain⟨x,hx⟩:∃x,Q[k]?=some x:=⟨_,List.getElem?_eq_getElem hlt⟩
    obtain⟨y,hy⟩:∃y,Q'[k]?=some y:=⟨_,List.getElem?_eq_getElem (by rw [←HN.out];exact hlt)⟩
    obtain⟨b1,o1,rfl,_,d1⟩:=K1.out k x hx;obtain⟨b2,o2,rfl,_,d2⟩:=K2.out k y hy;have i0:(0:Int)≤(k:Int):=by omega
    have i1:(k:Int)<(Q.length:Int):=by omega
    have i2:(k:Int)<(n':Int):=by rw [HN'.out,←HN.out];omega
    have i3:k<n':=by omega
    by_cases hxy:x=y
    ·subst hxy
     have hxx:(x.toList !=x.toList)=false:=by simp
     have HE':Hid (∀j,j<k+1→Q[j]?=Q'[j]?):=Lib.hid fun j hj=>by
      rcases Nat.lt_or_ge j k with h |h
      ·exact HE.out j h
      ·obtain rfl:j=k:=by omega
       rw [hx,hy]
     clear hx hy;go_wp2_with fail
     go_quiet (fail)
     go_wp2
     go_roundw
     case rel=>exact⟨k+1,by omega,by go_num,HE',_,rfl⟩
     case measure=>simp [intOf];omega
    ·have hxx:(x.toList !=y.toList)=true:=by
      rw [bne,to_list];simp [hxy]
     have hxz:(x.toList==y.toList)=false:=by rw [to_list];simp [hxy]
     have hxt:¬x.toList=y.toList:=by
      have:=hxz;simpa using this
     have HF:Hid (decide (Q=Q')=false):=Lib.hid (by
       simp only [decide_eq_false_iff_not];rintro rfl;rw [hx] at hy;exact hxy (Option.some.inj hy))
     clear hx hy;go_wp2_with fail
     go_quiet (fail)
     go_wp2
     go_ret
     exact⟨by rw [HF.out];rfl,⟨rfl,rfl,rfl,Nat.le_refl _,fun _ _=>rfl⟩⟩
   ·have HF:Hid (decide (Q=Q')=true):=Lib.hid (by
      simp only [decide_eq_true_eq];exact Jpf HN.out (by omega) HE.out)
    go_wp2
    go_ret
    exact⟨by rw [HF.out];rfl,⟨rfl,rfl,rfl,Nat.le_refl _,fun _ _=>rfl⟩⟩
 ·have hne:((Q.length:Int) !=(Q'.length:Int))=true:=by
   rw [bne_iff_ne];omega
  have HF:Hid (decide (Q=Q')=false):=Lib.hid (by
    simp only [decide_eq_false_iff_not];rintro rfl;exact hn rfl)
  have HN:=Lib.hid hn;clear hn;go_enter func126,ntmps126
  go_wp2_with fail
  go_ret
  exact⟨by rw [HF.out];rfl,Below.refl _ _⟩

def smB (r s:Rc):Bool:=decide (r.e=s.e∧r.rk=s.rk∧r.z=s.z∧r.wh=s.wh∧r.id=s.id∧r.x=s.x∧r.N=s.N∧r.fin=s.fin)
theorem Jjc {a b:Int} (h:¬a=b):(a==b)=false∧(a !=b)=true:=by simp [h]
theorem Jgp {a b:Int} (h:a=b):(a==b)=true∧(a !=b)=false:=by simp [h]
theorem Jyo {a b:ByteArray} (h:¬a=b):(a.toList==b.toList)=false∧(a.toList !=b.toList)=true:=by rw [bne,to_list];simp [h]
theorem Jv2 {a b:ByteArray} (h:a=b):(a.toList==b.toList)=true∧(a.toList !=b.toList)=false:=by rw [bne,to_list];simp [h]
theorem Jxm {a b:Bool} (h:¬a=b):(a==b)=false∧(a !=b)=true:=by simp [h]
theorem Jtw {a b:Bool} (h:a=b):(a==b)=true∧(a !=b)=false:=by simp [h]
theorem Jux (r s:Rc) (w:World) (hr:Txs w r.A r.N) (hs:Txs w s.A s.N) (hl:r.N.length≤9223372036854775807) (hl':s.N.length≤9223372036854775807):
  Calls prog 89 #[.agg #[.int .i64 r.e,.int .i64 r.rk,.int .i64 r.z,.int .i64 r.wh,.int .i64 r.id,.string r.x,.slice r.A r.N.length r.c,.bool r.fin],.agg #[.int .i64 s.e,.int .i64 s.rk,.int .i64 s.z,.int .i64 s.wh,.int .i64 s.id,.string s.x,.slice s.A s.N.length s.c,.bool s.fin]] w fun en w'=>en= .returned (.bool (smB r s))∧Below w.heap.size w w':=by
 obtain⟨g1,W1,hW1,eg1,hxa,hxb,hb1,lg1⟩:=Jgs w (.cells #[.int .i64 r.e,.int .i64 r.rk,.int .i64 r.z,.int .i64 r.wh,.int .i64 r.id,.string r.x,.slice r.A r.N.length r.c,.bool r.fin] 57) (.cells #[.int .i64 s.e,.int .i64 s.rk,.int .i64 s.z,.int .i64 s.wh,.int .i64 s.id,.string s.x,.slice s.A s.N.length s.c,.bool s.fin] 57);obtain⟨n1,hn1⟩:=words.nm (r.N.length);obtain⟨n2,hn2⟩:=words.nm (s.N.length);rw [←hn1,←hn2] at hW1;rw [←hn1] at hxa;rw [←hn2] at hxb;have a0:=Jaa hxa 0;have b0:=Jaa hxb 0;have a1:=Jaa hxa 1;have b1:=Jaa hxb 1;have a2:=Jaa hxa 2;have b2:=Jaa hxb 2;have a3:=Jaa hxa 3;have b3:=Jaa hxb 3;have a4:=Jaa hxa 4;have b4:=Jaa hxb 4;have a5:=Jaa hxa 5;have b5:=Jaa hxb 5;have a6:=Jaa hxa 6;have b6:=Jaa hxb 6;have a7:=Jaa hxa 7;have b7:=Jaa hxb 7;have HQ:=Lib.hid (Jsv r.A r.c r.N s.A s.c s.N W1 (hr.later hb1) (hs.later hb1) hl hl');have HB:=Lib.hid hb1;have HW:=Lib.hid hW1;have HE:=Lib.hid eg1;clear hxa hxb hb1 hW1 eg1 lg1 hr hs;rw [←hn1,←hn2];rw [←hn1,←hn2] at HQ;rw [←hn1] at hl;rw [←hn2] at hl';have HN1:=Lib.hid hn1;have HN2:=Lib.hid hn2;clear hn1 hn2;go_enter func89,ntmps89
 go_upto_region 1 with fail
 rw [HW.out];simp only [HE.out];clear HW HE;by_cases he:r.e=s.e
 rotate_left 1
 ·obtain⟨u1,u2⟩:=Jjc he
  have HF:Hid (smB r s=false):=Lib.hid (by unfold smB;simp only [decide_eq_false_iff_not];exact fun h=>he h.1);have u3:=he;clear he;go_wp2_with fail
  go_ret
  exact⟨by rw [HF.out];rfl,HB.out⟩
 obtain⟨pe,qe⟩:=Jgp he;have He:=Lib.hid he;clear he;by_cases hrk:r.rk=s.rk
 rotate_left 1
 ·obtain⟨u1,u2⟩:=Jjc hrk
  have HF:Hid (smB r s=false):=Lib.hid (by unfold smB;simp only [decide_eq_false_iff_not];exact fun h=>hrk h.2.1);have u3:=hrk;clear hrk;go_wp2_with fail
  go_ret
  exact⟨by rw [HF.out];rfl,HB.out⟩
 obtain⟨prk,qrk⟩:=Jgp hrk;have Hrk:=Lib.hid hrk;clear hrk;by_cases hz:r.z=s.z
 rotate_left 1
 ·obtain⟨u1,u2⟩:=Jjc hz
  have HF:Hid (smB r s=false):=Lib.hid (by unfold smB;simp only [decide_eq_false_iff_not];exact fun h=>hz h.2.2.1);have u3:=hz;clear hz;go_wp2_with fail
  go_ret
  exact⟨by rw [HF.out];rfl,HB.out⟩
 obtain⟨pz,qz⟩:=Jgp hz;have Hz:=Lib.hid hz;clear hz;by_cases hwh:r.wh=s.wh
 rotate_left 1
 ·obtain⟨u1,u2⟩:=Jjc hwh
  have HF:Hid (smB r s=false):=Lib.hid (by unfold smB;simp only [decide_eq_false_iff_not];exact fun h=>hwh h.2.2.2.1);have u3:=hwh;clear hwh;go_wp2_with fail
  go_ret
  exact⟨by rw [HF.out];rfl,HB.out⟩
 obtain⟨pwh,qwh⟩:=Jgp hwh;have Hwh:=Lib.hid hwh;clear hwh;by_cases hid:r.id=s.id
 rotate_left 1
 ·obtain⟨u1,u2⟩:=Jjc hid
  have HF:Hid (smB r s=false):=Lib.hid (by unfold smB;simp only [decide_eq_false_iff_not];exact fun h=>hid h.2.2.2.2.1);have u3:=hid;clear hid;go_wp2_with fail
  go_ret
  exact⟨by rw [HF.out];rfl,HB.out⟩
 obtain⟨pid,qid⟩:=Jgp hid;have Hqid:=Lib.hid hid;clear hid;by_cases hx:r.x=s.x
 rotate_left 1
 ·obtain⟨u1,u2⟩:=Jyo hx
  have HF:Hid (smB r s=false):=Lib.hid (by unfold smB;simp only [decide_eq_false_iff_not];exact fun h=>hx h.2.2.2.2.2.1);have u3:=hx;clear hx;go_wp2_with fail
  go_ret
  exact⟨by rw [HF.out];rfl,HB.out⟩
 obtain⟨px,qx⟩:=Jv2 hx;have Hx:=Lib.hid hx;clear hx;have HF:Hid (smB r s=(decide (r.N=s.N)&&decide (r.fin=s.fin))):=Lib.hid (by
   unfold smB;rw [Bool.eq_iff_iff];simp only [decide_eq_true_eq,Bool.and_eq_true];exact⟨fun h=>h.2.2.2.2.2.2,fun h=>⟨He.out,Hrk.out,Hz.out,Hwh.out,Hqid.out,Hx.out,h.1,h.2⟩⟩)
 by_cases hN:r.N=s.N
 ·have hNt:decide (r.N=s.N)=true:=by simp [hN]
  rw [hNt] at HQ HF;clear hN hNt;by_cases hfin:r.fin=s.fin
  ·obtain⟨u1,u2⟩:=Jtw hfin
   have hft:decide (r.fin=s.fin)=true:=by simp [hfin]
   rw [hft] at HF;have HFn:=Lib.hid hfin;clear hfin hft;go_wp2_with fail
   refine HQ.out.mono ?_;rintro en w2 ⟨rfl,hb2⟩;have HB2:=Lib.hid (HB.out.trans (hb2.mono HB.out.size));have d7:=(hb2.cell (p:=⟨w.heap.size,7,none⟩) (World.block_lt_of_cell? W1 _ a7)).trans a7;have e7:=(hb2.cell (p:=⟨g1,7,none⟩) (World.block_lt_of_cell? W1 _ b7)).trans b7;clear hb2 HQ;go_wp2_with fail
   go_ret
   exact⟨by rw [HF.out,HFn.out];simp,HB2.out⟩
  ·obtain⟨u1,u2⟩:=Jxm hfin
   have hft:decide (r.fin=s.fin)=false:=by simp [hfin]
   rw [hft] at HF;clear hfin hft;go_wp2_with fail
   refine HQ.out.mono ?_;rintro en w2 ⟨rfl,hb2⟩;have HB2:=Lib.hid (HB.out.trans (hb2.mono HB.out.size));have d7:=(hb2.cell (p:=⟨w.heap.size,7,none⟩) (World.block_lt_of_cell? W1 _ a7)).trans a7;have e7:=(hb2.cell (p:=⟨g1,7,none⟩) (World.block_lt_of_cell? W1 _ b7)).trans b7;clear hb2 HQ;go_wp2_with fail
   go_ret
   exact⟨by rw [HF.out];simp,HB2.out⟩
 ·have hNt:decide (r.N=s.N)=false:=by simp [hN]
  rw [hNt] at HQ HF;clear hN hNt;go_wp2_with fail
  refine HQ.out.mono ?_;rintro en w2 ⟨rfl,hb2⟩;have HB2:=Lib.hid (HB.out.trans (hb2.mono HB.out.size));clear hb2 HQ;go_wp2_with fail
  go_ret
  exact⟨by rw [HF.out];simp,HB2.out⟩

def ans (e:Int):Rc:=⟨0,0,0,⟨#[]⟩,0,0,0,⟨#[]⟩,e,0,0,0,0,⟨#[]⟩,[],false,0,0,0,none,0⟩
theorem Bare.parts {x:Rc} (h:Bare x):x.A=none∧x.N=[]∧x.c=0:=by
 have h2:some (Value.slice x.A x.N.length x.c)=some (.slice none 0 0):=h;injection h2 with h2;injection h2 with h3 h4 h5;exact⟨h3,List.eq_nil_of_length_eq_zero h4,h5⟩
theorem m_do (a:Addr) (w:World):Sem.run prog (method 561 80 (.pointer (some a)) "Do") w= .ok (158,.pointer (some a)) w:=by kernel_rfl
theorem same_bare {x:Rc} {e:Int} {b:Bool} (h:Bare x) (hb:smB x (ans e)=b) (w:World):Calls prog 89 #[.agg #[.int .i64 x.e,.int .i64 x.rk,.int .i64 x.z,.int .i64 x.wh,.int .i64 x.id,.string x.x,.slice x.A x.N.length x.c,.bool x.fin],.agg #[.int .i64 e,.int .i64 0,.int .i64 0,.int .i64 0,.int .i64 0,.string ⟨#[]⟩,.slice none 0 0,.bool false]] w fun en w'=>en= .returned (.bool b)∧Below w.heap.size w w':=by
 obtain⟨h1,h2,h3⟩:=h.parts;have:=Jux x (ans e) w (by rw [h2];exact fun i y hy=>by simp at hy) (fun i y hy=>by cases hy) (by rw [h2];simp) (by show 0≤_;omega);rw [hb] at this;exact this
end Go.Proofs.YtekekhgjobahaaaGreatDoor.tal
