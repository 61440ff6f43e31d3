import Derived.Test.YtcoimjbhoiipoaaGreatDoorG36
import Derived.Test.YtcoimjbhoiipoaaGreatDoorG39
import Derived.Test.YtcoimjbhoiipoaaGreatDoorG29
set_option maxHeartbeats 12800000
set_option maxRecDepth 100000
open Go.Lib (hid)
open Go.Proofs.Tryz
namespace Go.Proofs.YtcoimjbhoiipoaaGreatDoor.scr
open Go.RowKit words ext name tre stk ima

def OpenY (s:ByteArray):Prop:=∃n,imgB n=s∧treeB n=true∧countC n=(count n:Int)∧count n≤4096∧(nb n).length≤4194297∧depth n≤1000
def OpenN (s:ByteArray):Prop:=decB s=none∧s.size≤140737488355328∧∀n c,nodeP 4097 0 (Lib.trimPrefix s.data.toList magic.data.toList)=some (n,[],c)→depth n≤1000
def skE (y:ByteArray→Bool):Nat→List ByteArray→Int
 |_,[]=>0
 |k,x::r=>if y x=true then (if 64≤k then 6 else skE y (k+1) r) else 1
theorem Jr1 {y:ByteArray→Bool} {k:Nat} {L:List ByteArray} {x:ByteArray} (h:L[k]?=some x) (hy:y x=false):skE y k (L.drop k)=1:=by
 obtain⟨hk,rfl⟩:=List.getElem?_eq_some_iff.1 h;rw [List.drop_eq_getElem_cons hk];unfold skE;rw [hy];rfl
theorem Jpr {y:ByteArray→Bool} {k:Nat} {L:List ByteArray} {x:ByteArray} (h:L[k]?=some x) (hy:y x=true) (h6:64≤k):skE y k (L.drop k)=6:=by
 obtain⟨hk,rfl⟩:=List.getElem?_eq_some_iff.1 h;rw [List.drop_eq_getElem_cons hk];unfold skE;rw [if_pos hy,if_pos h6]
theorem Jpo {y:ByteArray→Bool} {k:Nat} {L:List ByteArray} {x:ByteArray} (h:L[k]?=some x) (hy:y x=true) (h6:k<64):skE y k (L.drop k)=skE y (k+1) (L.drop (k+1)):=by
 obtain⟨hk,rfl⟩:=List.getElem?_eq_some_iff.1 h;rw [List.drop_eq_getElem_cons hk]
 conv=>lhs;unfold skE
 rw [if_pos hy,if_neg (by omega)]
theorem Ji5 {y:ByteArray→Bool}:∀(L:List ByteArray) (k:Nat),(∀x∈L,y x=true)→k+L.length≤64→skE y k L=0
 |[],_,_,_=>rfl
 |x::r,k,h,hk=>by
  unfold skE;rw [if_pos (h x (by simp)),if_neg (by rw [List.length_cons] at hk;omega)];exact Ji5 r (k+1) (fun z hz=>h z (by simp [hz])) (by rw [List.length_cons] at hk;omega)
theorem Jmz {y:ByteArray→Bool}:∀(P:List ByteArray) (k:Nat) (x:ByteArray) (R:List ByteArray),(∀x∈P,y x=true)→k+P.length≤64→y x=false→skE y k (P++x::R)=1
 |[],_,x,_,_,_,hx=>by
  show (if y x=true then _ else _)=(1:Int)
  rw [hx];rfl
 |z::P,k,x,R,h,hk,hx=>by
  rw [List.cons_append];unfold skE;rw [if_pos (h z (by simp)),if_neg (by rw [List.length_cons] at hk;omega)];exact Jmz P (k+1) x R (fun z hz=>h z (by simp [hz])) (by rw [List.length_cons] at hk;omega) hx
def Tx (w:World) (B:Nat) (A:Option Addr) (L:List ByteArray):Prop:=∀(i:Nat) (x:ByteArray),L[i]?=some x→∃b off,A=some ⟨b,off,none⟩∧b<B∧w.cell? ⟨b,off+i,none⟩=some (.string x)
theorem Tx.keep {w w':World} {B:Nat} {A:Option Addr} {L:List ByteArray} (h:Tx w B A L) (hb:Below B w w'):Tx w' B A L:=fun i x hx=>by
 obtain⟨b,off,h1,h2,h3⟩:=h i x hx;exact⟨b,off,h1,h2,(hb.cell (p:=⟨b,off+i,none⟩) h2).trans h3⟩
structure SkI (w:World) (k:Nat) (A:Option Addr) (c:Nat) (L:List (Nat×Int)) (wr:World):Prop where
 res:wr.heap[w.heap.size]?=some (.cells #[.slice none 0 0,.int .i64 0] 33 (0,0))
 box:wr.heap[w.heap.size+1]?=some (.cells #[.slice A L.length c,.int .i64 (k:Int)] 33 (0,0))
 len:L.length=k
 le:k≤64
 slc:SlcP wr (Pn w wr) A c L
 below:Below w.heap.size w wr
theorem SkI.big {w:World} {k:Nat} {A:Option Addr} {c:Nat} {L:List (Nat×Int)} {wr:World} (h:SkI w k A c L wr):w.heap.size+2≤wr.heap.size:=by
 have:=lt_of_some h.box;omega
theorem SkI.later {w:World} {k:Nat} {A:Option Addr} {c:Nat} {L:List (Nat×Int)} {wr w2:World} (h:SkI w k A c L wr) (hb:Below wr.heap.size wr w2):SkI w k A c L w2:=
 ⟨(hb.block _ (lt_of_some h.res)).trans h.res,(hb.block _ (lt_of_some h.box)).trans h.box,h.len,h.le,h.slc.keep fun b hp=>⟨hb.block b hp.2,hp.1,Nat.lt_of_lt_of_le hp.2 hb.size⟩,h.below.trans (hb.mono h.below.size)⟩
theorem SkI.next {w:World} {k g:Nat} {A A':Option Addr} {c c':Nat} {L:List (Nat×Int)} {w2 w3:World} (h:SkI w k A c L w2) (hlt:k<64)
  (ho:Owned w3 w2.heap.size (L.length+1) (.slice A' (L.length+1) c') ((g,(k:Int))::L)) (hb:Below w2.heap.size w2 w3):
  SkI w (k+1) A' c' ((g,(k:Int))::L) ((w3.setCell ⟨w.heap.size+1,0,none⟩ (.slice A' (L.length+1) c')).setCell ⟨w.heap.size+1,1,none⟩ (.int .i64 ((k:Int)+1))):=by
 obtain⟨w4,hw4⟩:=words.nm ((w3.setCell ⟨w.heap.size+1,0,none⟩ (.slice A' (L.length+1) c')).setCell ⟨w.heap.size+1,1,none⟩ (.int .i64 ((k:Int)+1)));rw [←hw4];have h3:=h.later hb;have hbig:=h.big;have hsz:w4.heap.size=w3.heap.size:=by rw [hw4];simp
 have hblk:∀b,b≠w.heap.size+1→w4.heap[b]?=w3.heap[b]?:=fun b hne=>by
  rw [hw4,heap_setCell_other _ _ _ _ hne,heap_setCell_other _ _ _ _ hne]
 refine⟨(hblk _ (by omega)).trans h3.res,by rw [hw4];exact over2 h3.box,by rw [List.length_cons,h.len],hlt,?_,?_⟩
 ·exact ho.slcP.keep fun b hb'=>⟨hblk b (by have:=hb'.1;omega),Nat.le_trans hbig hb'.1,by rw [hsz];exact hb'.2⟩
 ·rw [hw4]
  exact (h3.below.setCell (p:=⟨w.heap.size+1,0,none⟩) (by show w.heap.size≤w.heap.size+1;omega) _).setCell (p:=⟨w.heap.size+1,1,none⟩) (by show w.heap.size≤w.heap.size+1;omega) _
def SkOut (z:Int) (n:Nat) (w:World) (e:Ending) (w':World):Prop:=
 ((z=0∧∃A c,e= .returned (.tuple #[.agg #[.slice A n c,.int .i64 (n:Int)],.int .i64 0]))∨(z≠0∧e= .returned (.tuple #[.agg #[.slice none 0 0,.int .i64 0],.int .i64 z])))∧Below w.heap.size w w'
theorem Jsn {w w3:World} {z:Int} {n k:Nat} {A:Option Addr} {c:Nat} {L:List (Nat×Int)} (h:SkI w k A c L w3) (hz:z≠0):
  ∀W4,W4=(w3.setCell ⟨w.heap.size,0,none⟩ (.slice none 0 0)).setCell ⟨w.heap.size,1,none⟩ (.int .i64 0)→W4.cell? ⟨w.heap.size,0,none⟩=some (.slice none 0 0)∧W4.cell? ⟨w.heap.size,1,none⟩=some (.int .i64 0)∧SkOut z n w (.returned (.tuple #[.agg #[.slice none 0 0,.int .i64 0],.int .i64 z])) W4:=fun W4 hW4=>by
 have h4:=over2 (u0:= .slice none 0 0) (u1:= .int .i64 0) h.res;rw [←hW4] at h4;have hb4:Below w.heap.size w W4:=by rw [hW4];exact (h.below.setCell (p:=⟨w.heap.size,0,none⟩) (Nat.le_refl _) _).setCell (p:=⟨w.heap.size,1,none⟩) (Nat.le_refl _) _
 exact⟨Jaa h4 0,Jaa h4 1,.inr ⟨hz,rfl⟩,hb4⟩
theorem Jfn (y:ByteArray→Bool) (A:Option Addr) (c:Nat) (L:List ByteArray) (m:Int) (w:World) (hL:Tx w w.heap.size A L) (hm:w.cell? ⟨0,0,none⟩=some (.int .i64 m))
  (hy:∀x∈L,(y x=true→OpenY x)∧(y x=false→OpenN x)):
  Calls prog 7 #[.slice A L.length c] w (SkOut (skE y 0 L) L.length w):=by
 obtain⟨Wa,hWa⟩:=words.nm (w.alloc (.cells #[.slice none 0 0,.int .i64 0] 33));obtain⟨W1,hW1⟩:=words.nm (Wa.alloc (.cells #[.slice none 0 0,.int .i64 0] 33));have hz:Wa.heap.size=w.heap.size+1:=by rw [hWa];simp
 have hba:=words.b1 hWa;have hb1:Below w.heap.size w W1:=by rw [hW1];exact hba.alloc hba.size _
 have hs1:W1.heap[w.heap.size]?=some (.cells #[.slice none 0 0,.int .i64 0] 33 (0,0)):=by
  rw [hW1];refine (Below.heap_alloc Wa _ _ (by omega)).trans ?_;rw [hWa];exact heap_alloc_new w _
 have hr1:W1.heap[w.heap.size+1]?=some (.cells #[.slice none 0 0,.int .i64 0] 33 (0,0)):=by rw [hW1,←hz];exact heap_alloc_new Wa _
 have H1:Hid (SkI w 0 none 0 [] W1):=hid ⟨hs1,hr1,rfl,by omega,⟨fun i x hx=>by simp at hx,Nat.le_refl _,by unfold maxLen;omega,fun _=>⟨rfl,rfl⟩⟩,hb1⟩;have HT:=hid hL;have HM:=hid hm;have HD:=hid hy;obtain⟨Z,hZ⟩:=words.nm (skE y 0 L);have HZ0:Hid (Z=skE y 0 (L.drop 0)):=hid hZ;rw [←hZ];rw [hWa] at hW1;have HW1:=hid hW1;clear hL hm hy hba hb1 hs1 hr1 hW1 hWa hz hZ;go_enter func7,ntmps7
 go_upto_region 2 with fail
 rw [←HW1.out];go_wp2_with fail
 go_loopw [11] (fun v wr=>∃(k:Nat) (A1:Option Addr) (c1:Nat) (R:List (Nat×Int)),v= .int .i64 (k:Int)∧k≤L.length∧Hid (SkI w k A1 c1 R wr)∧Hid (Z=skE y k (L.drop k))) (fun v _=>L.length - (intOf v).toNat)
 case atStart=>exact⟨0,none,0,[],rfl,Nat.zero_le _,H1,HZ0⟩
 case round=>
  obtain⟨k,A1,c1,R,rfl,hk,HI,HZ⟩:=hrel;clear HZ0;by_cases hlt:k<L.length
  ·obtain⟨x,hx⟩:∃x,L[k]?=some x:=⟨_,List.getElem?_eq_getElem hlt⟩
   obtain⟨b,off,hA,hb,hcl⟩:=(HT.out.keep HI.out.below) k x hx;subst hA;have i0:(0:Int)≤(k:Int):=by omega
   have i1:(k:Int)<(L.length:Int):=by omega
   obtain⟨d1,d2⟩:=HD.out x (List.mem_of_getElem? hx);have Hx:=hid hx;clear hx;rcases hyx:y x with _ |_
   ·obtain⟨q1,q2,q3⟩:=d2 hyx
    have HC:=hid (Jqs x m wr (below_cell HM.out HI.out.below) q2 q3 q1);have HZ1:Hid (Z=1):=hid (HZ.out.trans (Jr1 Hx.out hyx));clear d1 d2 q1 q2 q3 hyx hb;go_wp2_with fail
    refine HC.out.mono ?_;rintro e w3 ⟨rfl,hb3⟩;have hI3:=HI.out.later hb3;have r0:w3.cell? ⟨w.heap.size,0,none⟩=some (.slice none 0 0):=Jaa hI3.res 0;have r1:w3.cell? ⟨w.heap.size,1,none⟩=some (.int .i64 0):=Jaa hI3.res 1;have f0:=Jab hI3.res 0;have f1:=Jab hI3.res 1;have HE:=hid (Jsn (z:=Z) (n:=L.length) hI3 (by rw [HZ1.out];decide));clear hb3 hI3 HC HI HZ hcl;go_wp2_with fail
    obtain⟨p0,p1,p2⟩:=HE.out _ rfl;exact bodyPost_ret (v:= .tuple #[.agg #[.slice none 0 0,.int .i64 0],.int .i64 1]) (by simp [results,results7,go_sem,p0,p1]) rfl (by rw [HZ1.out] at p2 ⊢;exact p2)
   ·obtain⟨n,e1,e2,e3,e4,e5,e6⟩:=d1 hyx
    have hC:=Jo9 n m wr (below_cell HM.out HI.out.below) e2 e3 e4 e5 e6;rw [e1] at hC;have HC:=hid hC;have HY:=hid hyx;clear d1 d2 e1 e2 e3 e4 e5 e6 hyx hb hC;go_wp2_with fail
    refine HC.out.mono ?_;rintro e w3 ⟨⟨g,rfl,hg⟩,hb3⟩;have hI3:=HI.out.later hb3;have hle:=hI3.le;have hLl:R.length≤k∧k≤R.length:=by have:=hI3.len;omega
    obtain⟨hL1,hL2⟩:=hLl;have s0:w3.cell? ⟨w.heap.size+1,0,none⟩=some (.slice A1 R.length c1):=Jaa hI3.box 0;have s1:w3.cell? ⟨w.heap.size+1,1,none⟩=some (.int .i64 (k:Int)):=Jaa hI3.box 1;by_cases h64:k<64
    ·have hA:=Jq0 A1 c1 (k:Int) g R w3 (hI3.slc.slc fun b hb=>hb.2) (by omega) (by omega) (by omega)
     unfold stkV at hA;have HA:=hid hA;have HI3:=hid hI3;have HZ2:=hid (HZ.out.trans (Jpo Hx.out HY.out h64));clear hA hg hb3 hI3 HC HI HZ hcl;go_wp2_with fail
     refine HA.out.mono ?_;rintro e w4 ⟨A4,c4,rfl,ho4,hb4⟩;have hI4:=HI3.out.later hb4;have t0:w4.cell? ⟨w.heap.size+1,0,none⟩=some (.slice A1 R.length c1):=Jaa hI4.box 0;have t1:w4.cell? ⟨w.heap.size+1,1,none⟩=some (.int .i64 (k:Int)):=Jaa hI4.box 1;have f0:=Jab hI4.box 0;have f1:=Jab hI4.box 1;have HN:=hid (HI3.out.next h64 ho4 hb4);unfold stkV;rw [List.length_cons];clear ho4 hb4 hI4 HA HI3 s0 s1;go_wp2_with fail
     go_roundw
     case rel=>exact⟨k+1,A4,c4,_,by go_num,by omega,HN,HZ2⟩
     case measure=>simp [intOf];omega
    ·have hA:=Jsb A1 R.length c1 (k:Int) (some ⟨g,0,none⟩) w3 (by omega)
     unfold stkV at hA;have HA:=hid hA;have HI3:=hid hI3;have HZ6:Hid (Z=6):=hid (HZ.out.trans (Jpr Hx.out HY.out (by omega)));clear hA hg hb3 hI3 HC HI HZ hcl;go_wp2_with fail
     refine HA.out.mono ?_;rintro e w4 ⟨rfl,hb4⟩;have hI4:=HI3.out.later hb4;have hbig:=hI4.big;have t0:w4.cell? ⟨w.heap.size+1,0,none⟩=some (.slice A1 R.length c1):=Jaa hI4.box 0;have t1:w4.cell? ⟨w.heap.size+1,1,none⟩=some (.int .i64 (k:Int)):=Jaa hI4.box 1;have f0:=Jab hI4.box 0;have f1:=Jab hI4.box 1;obtain⟨W5,hW5⟩:=words.nm ((w4.setCell ⟨w.heap.size+1,0,none⟩ (.slice A1 R.length c1)).setCell ⟨w.heap.size+1,1,none⟩ (.int .i64 (k:Int)));have hn5:∀b,b≠w.heap.size+1→W5.heap[b]?=w4.heap[b]?:=fun b hne=>by rw [hW5,heap_setCell_other _ _ _ _ hne,heap_setCell_other _ _ _ _ hne]
     have hr5:=(hn5 w.heap.size (by omega)).trans hI4.res;have r0:W5.cell? ⟨w.heap.size,0,none⟩=some (.slice none 0 0):=Jaa hr5 0;have r1:W5.cell? ⟨w.heap.size,1,none⟩=some (.int .i64 0):=Jaa hr5 1;have g0:=Jab hr5 0;have g1:=Jab hr5 1;obtain⟨W6,hW6⟩:=words.nm ((W5.setCell ⟨w.heap.size,0,none⟩ (.slice none 0 0)).setCell ⟨w.heap.size,1,none⟩ (.int .i64 0));have h6:=over2 (u0:= .slice none 0 0) (u1:= .int .i64 0) hr5;rw [←hW6] at h6;have p0:W6.cell? ⟨w.heap.size,0,none⟩=some (.slice none 0 0):=Jaa h6 0;have p1:W6.cell? ⟨w.heap.size,1,none⟩=some (.int .i64 0):=Jaa h6 1;have hb5:Below w.heap.size w W5:=by rw [hW5];exact (hI4.below.setCell (p:=⟨w.heap.size+1,0,none⟩) (by show w.heap.size≤w.heap.size+1;omega) _).setCell (p:=⟨w.heap.size+1,1,none⟩) (by show w.heap.size≤w.heap.size+1;omega) _
     have hb6:Below w.heap.size w W6:=by rw [hW6];exact (hb5.setCell (p:=⟨w.heap.size,0,none⟩) (Nat.le_refl _) _).setCell (p:=⟨w.heap.size,1,none⟩) (Nat.le_refl _) _
     have HE:Hid (SkOut Z L.length w (.returned (.tuple #[.agg #[.slice none 0 0,.int .i64 0],.int .i64 6])) W6):=hid (by rw [HZ6.out];exact⟨.inr ⟨by decide,rfl⟩,hb6⟩);have HW5:=hid hW5;have HW6:=hid hW6;clear hb4 hI4 hn5 hr5 h6 hb5 hb6 hW5 hW6 HA HI3 s0 s1;go_upto_region 8 with fail
     rw [←HW5.out];go_wp2_with fail
     rw [←HW6.out];exact bodyPost_ret (v:= .tuple #[.agg #[.slice none 0 0,.int .i64 0],.int .i64 6]) (by simp [results,results7,go_sem,p0,p1]) rfl HE.out
  ·obtain rfl:k=L.length:=by omega
   have s0:wr.cell? ⟨w.heap.size+1,0,none⟩=some (.slice A1 R.length c1):=Jaa HI.out.box 0;have s1:wr.cell? ⟨w.heap.size+1,1,none⟩=some (.int .i64 (L.length:Int)):=Jaa HI.out.box 1;have r0:wr.cell? ⟨w.heap.size,0,none⟩=some (.slice none 0 0):=Jaa HI.out.res 0;have r1:wr.cell? ⟨w.heap.size,1,none⟩=some (.int .i64 0):=Jaa HI.out.res 1;have f0:=Jab HI.out.res 0;have f1:=Jab HI.out.res 1;obtain⟨W4,hW4⟩:=words.nm ((wr.setCell ⟨w.heap.size,0,none⟩ (.slice A1 R.length c1)).setCell ⟨w.heap.size,1,none⟩ (.int .i64 (L.length:Int)));have h4:=over2 (u0:= .slice A1 R.length c1) (u1:= .int .i64 (L.length:Int)) HI.out.res;rw [←hW4] at h4;have p0:W4.cell? ⟨w.heap.size,0,none⟩=some (.slice A1 R.length c1):=Jaa h4 0;have p1:W4.cell? ⟨w.heap.size,1,none⟩=some (.int .i64 (L.length:Int)):=Jaa h4 1;have hb4:Below w.heap.size w W4:=by rw [hW4];exact (HI.out.below.setCell (p:=⟨w.heap.size,0,none⟩) (Nat.le_refl _) _).setCell (p:=⟨w.heap.size,1,none⟩) (Nat.le_refl _) _
   have HE:Hid (SkOut Z L.length w (.returned (.tuple #[.agg #[.slice A1 R.length c1,.int .i64 (L.length:Int)],.int .i64 0])) W4):=hid ⟨.inl ⟨HZ.out.trans (by rw [List.drop_length];rfl),A1,c1,by rw [HI.out.len]⟩,hb4⟩;have HW4:=hid hW4;clear h4 hb4 hW4 HI;go_wp2_with fail
   rw [←HW4.out];exact bodyPost_ret (v:= .tuple #[.agg #[.slice A1 R.length c1,.int .i64 (L.length:Int)],.int .i64 0]) (by simp [results,results7,go_sem,p0,p1]) rfl HE.out
end Go.Proofs.YtcoimjbhoiipoaaGreatDoor.scr

namespace Go.Proofs.YtcoimjbhoiipoaaGreatDoor.cat
open Go.RowKit words ext tre

structure Mk (V0:World) (E:TypeId) (sz:Nat) (v:Value) (n:Nat) (xs:List Value) (w:World):Prop where
 own:w.ownsRow V0.heap.size E sz v n xs
 below:Below V0.heap.size V0 w
theorem Mk.later {V0:World} {E:TypeId} {sz n:Nat} {v:Value} {xs:List Value} {w w':World} (h:Mk V0 E sz v n xs w) (hb:Below w.heap.size w w'):Mk V0 E sz v n xs w':=by
 refine⟨⟨h.own.1,?_⟩,h.below.trans (hb.mono h.below.size)⟩;rcases h.own.2 with h0 |⟨g,cap,cur,h1,h2,h3,h4⟩
 ·exact .inl h0
 ·exact .inr ⟨g,cap,cur,h1,h2,(hb.block _ (lt_of_some h3)).trans h3,h4⟩
theorem Mk.start {V0 V:World} (E:TypeId) (sz:Nat) (h:Below V0.heap.size V0 V):Mk V0 E sz (.slice (some ⟨V.heap.size,0,none⟩) 0 0) 0 [] (V.alloc (.cells #[] E)):=
 ⟨World.ownsRow_made V #[] 0 h.size (by decide) (by simp),h.alloc h.size _⟩
theorem below_new (V:World) (o:Obj):Below V.heap.size V (V.alloc o):=(Below.refl _ _).alloc (Nat.le_refl _) _
theorem lies_new (V:World) (cs:Array Value) (E:TypeId):Lies (V.alloc (.cells cs E)) (some ⟨V.heap.size,0,none⟩) cs.toList:=fun j u hj=>
 ⟨V.heap.size,0,rfl,by simp,by
   rw [Nat.zero_add,cell_of_row _ V.heap.size j cs E (0,0) (heap_alloc_new V _)];simpa using hj⟩
theorem lies_later {w w':World} {A:Option Addr} {xs:List Value} (h:Lies w A xs) (hb:Below w.heap.size w w'):Lies w' A xs:=fun j u hj=>by
 obtain⟨b,off,h1,h2,h3⟩:=h j u hj;exact⟨b,off,h1,Nat.lt_of_lt_of_le h2 hb.size,(hb.cell (p:=⟨b,off+j,none⟩) h2).trans h3⟩
theorem lies_grown {w w':World} {b:Nat} {xs:List Value} {row:Option Nat} (h:Lies w (some ⟨b,0,none⟩) xs) (hg:w.grownBy w' row) (hne:some b≠row):Lies w' (some ⟨b,0,none⟩) xs:=fun j u hj=>by
 obtain⟨b',off,e1,e2,e3⟩:=h j u hj;injection e1 with e1;injection e1 with e1 e1';subst e1 e1';have hk:=hg.block b e2 hne;exact⟨b,0,rfl,by
   have:=World.block_lt_of_cell? w' _ ((World.cell?_of_block hk).trans e3);exact this,(World.cell?_of_block hk).trans e3⟩
theorem lies_below {V0 w:World} {A:Option Addr} {xs:List Value} (h:Lies V0 A xs) (hb:Below V0.heap.size V0 w):Lies w A xs:=lies_later h hb
theorem lies_take {w:World} {A:Option Addr} {xs:List Value} (h:Lies w A xs) (k:Nat):Lies w A (xs.take k):=fun j u hj=>by
 rw [List.getElem?_take] at hj;split at hj
 ·exact h j u hj
 ·cases hj
def cutA (A:Option Addr) (c i sz:Nat):Option Addr:=if c=i then A else A.map (·.add (i*sz))
theorem lies_drop {w:World} {A:Option Addr} {xs:List Value} (h:Lies w A xs) {c i sz:Nat} (hl:xs.length≤c*sz):Lies w (cutA A c i sz) (xs.drop (i*sz)):=fun j u hj=>by
 rw [List.getElem?_drop] at hj;obtain⟨b,off,h1,h2,h3⟩:=h _ u hj;unfold cutA;by_cases hc:c=i
 ·subst hc
  have:=(List.getElem?_eq_some_iff.1 hj).1;omega
 ·rw [if_neg hc,h1]
  exact⟨b,off+i*sz,by rw [Option.map_some,add_place],h2,by rw [Nat.add_assoc];exact h3⟩
theorem cutA_none {A:Option Addr} {n c i sz:Nat} (h:A=none→n=0∧c=0) (hi:i≤n):cutA A c i sz=none→n - i=0∧c - i=0:=fun e=>by
 unfold cutA at e;split at e
 ·rename_i hc
  obtain⟨h1,h2⟩:=h e;omega
 ·rcases A with _ |A
  ·obtain⟨h1,h2⟩:=h rfl
   omega
  ·cases e
theorem run_cut_lo {P:Program} (t e:TypeId) (z:Value) (sz bytes:Nat) (hu:P.underlying t=some (.slice (P.elem t))) (he:P.elem t=e) (hi:(P.info? e).map (fun i=>(i.zero,i.size,i.bytes))=some (some z,sz,bytes)) (A:Option Addr) (n cap i:Nat) (h:i≤n) (wx:World):
  (Instr.slice t (.slice A n cap) (some (.int .i64 (i:Int))) none none).run P wx= .ok (.slice (cutA A cap i sz) (n - i) (cap - i)) wx:=by
 obtain⟨i0,hi,hz0,hz1,hz2⟩:=info_parts hi;rw [run_slice_l (P:=P) wx t A n cap hu .i64 (i:Int) (by omega) (by omega),he];simp [sizeOf,typeInfo,hi,hz1,Result.andThen,sliced,cutA]
theorem run_cut_hi {P:Program} (t e:TypeId) (z:Value) (sz bytes:Nat) (hu:P.underlying t=some (.slice (P.elem t))) (he:P.elem t=e) (hi:(P.info? e).map (fun i=>(i.zero,i.size,i.bytes))=some (some z,sz,bytes)) (A:Option Addr) (n cap i:Nat) (h:i≤cap) (wx:World):
  (Instr.slice t (.slice A n cap) none (some (.int .i64 (i:Int))) none).run P wx= .ok (.slice A i cap) wx:=by
 obtain⟨i0,hi,hz0,hz1,hz2⟩:=info_parts hi;rw [run_slice_h (P:=P) wx t A n cap hu .i64 (i:Int) (by omega) (by omega),he];simp [sizeOf,typeInfo,hi,hz1,Result.andThen,sliced];rcases A with _ |A
 ·intro _;rfl
 ·simp [Addr.add]
theorem step_app {P:Program} {ops:Array Oper} {o:Oper} {a:Act} {K:Act→World→Prop} {Q:Exit→Act→World→Prop} {E':Prop} {V0 w:World} {E:TypeId} {sz n:Nat} {v:Value} {xs:List Value} (hM:Mk V0 E sz v n xs w) (hgd:o.guard=none) (s x:Operand) (t:TypeId)
  (ho:o.op= .call {callee:= .builtin .append,args:=#[s,x],argTypes:=#[t,t]})
  (z:Value) (bytes:Nat) (ht:P.underlying t=some (.slice E)) (hi:(P.info? E).map (fun i=>(i.zero,i.size,i.bytes))=some (some z,sz,bytes)) (hzs:z.cells.size=sz) (hsz:0<sz) (hs:a.eval s=v)
  (A:Option Addr) (m c:Nat) (news:List Value) (hA:A=none→m=0∧c=0) (hx:a.eval x= .slice A m c) (hl:news.length=m*sz) (hnews:Lies w A news) (h1:∀u∈news,u.oneCell'=true)
  (h63:n+m≤maxLen) (hbytes:(n+m)*bytes≤140737488355328) (N:Nat) (X:List Value) (hN:N=n+m) (hX:X=xs++news)
  (h:∀A' c' w',Mk V0 E sz (.slice A' N c') N X w'→(N≤c'∧(A'=none→N=0∧c'=0))→w.grownBy w' v.ownBlock→K (a.put o.dst (.slice A' N c')) w'):if Region.wanted o (yielded ops a.tmps)=true then Oper.wp P o a w K Q else E':=by
 subst hN hX;obtain⟨i,hi,hz,hsize,hby⟩:=info_parts hi;have hw:Region.wanted o (yielded ops a.tmps)=true:=by simp [Region.wanted,hgd]
 rw [if_pos hw];have hgo:∀v' w',w'.ownsRow V0.heap.size E sz v' (n+m) (xs++news)→w.grownBy w' v.ownBlock→K (a.put o.dst v') w':=fun v' w' k1 k2=>by
  obtain⟨A',c',rfl,q1,q2⟩:=own_facts k1;exact h A' c' w' ⟨k1,Ja4 hM.below hM.own k2 (Nat.le_refl _) (Nat.le_refl _)⟩ ⟨q1,q2⟩ k2
 rcases A with _ |ad
 ·obtain⟨rfl,rfl⟩:=hA rfl
  have hn:news=[]:=List.eq_nil_of_length_eq_zero (by rw [hl,Nat.zero_mul]);have hrun:=run_append_owned_none (P:=P) (w:=w) V0.heap.size t o.type E i sz ht hi v n xs hM.own;have hh:=hgo v w (by rw [hn,List.append_nil,Nat.add_zero];exact hM.own) ⟨rfl,rfl,rfl,Nat.le_refl _,fun _ _ _=>rfl⟩;unfold Oper.wp;simp [execOp,ho,resolve,invoke,builtin,hs,hx,hrun,Result.andThen];exact hh
 ·refine wp_append_own w s x t ho V0.heap.size E i z sz bytes ht hi hz hsize hby hzs hsz v n xs hs hM.own ad m c news hx hl (fun j u hj=>?_) h1 h63 hbytes hM.below.size fun v' w' k1 k2 _=>hgo v' w' k1 k2
  obtain⟨b,off,e1,_,e3⟩:=hnews j u hj;injection e1 with e1;subst e1;rw [add_place];exact e3
end Go.Proofs.YtcoimjbhoiipoaaGreatDoor.cat
