import Derived.Test.YtekekhgjobahaaaGreatDoorE7
import Derived.Test.YtekekhgjobahaaaGreatDoorE0
set_option maxHeartbeats 12800000
set_option maxRecDepth 100000
open Go.Lib (hid)
open Go.Proofs.Tryz
namespace Go.Proofs.YtekekhgjobahaaaGreatDoor.scr
open Go.RowKit words ext name tre stk ima

def OpenY (s:ByteArray):Prop:=∃n,imgB n=s∧treeB n=true∧countC n=(count n:Int)∧count n≤4096∧(nb n).length≤4194297∧depth n≤1000
def OpenN (s:ByteArray):Prop:=decB s=none∧s.size≤140737488355328∧∀n c,nodeP 4097 0 (Lib.trimPrefix s.data.toList magic.data.toList)=some (n,[],c)→depth n≤1000
def skE (y:ByteArray→Bool):Nat→List ByteArray→Int
 |_,[]=>0
 |k,x::r=>if y x=true then (if 64≤k then 6 else skE y (k+1) r) else 1
theorem Jx8 {y:ByteArray→Bool} {k:Nat} {L:List ByteArray} {x:ByteArray} (h:L[k]?=some x) (hy:y x=false):skE y k (L.drop k)=1:=by
 obtain⟨hk,rfl⟩:=List.getElem?_eq_some_iff.1 h;rw [List.drop_eq_getElem_cons hk];unfold skE;rw [hy];rfl
theorem Juw {y:ByteArray→Bool} {k:Nat} {L:List ByteArray} {x:ByteArray} (h:L[k]?=some x) (hy:y x=true) (h6:64≤k):skE y k (L.drop k)=6:=by
 obtain⟨hk,rfl⟩:=List.getElem?_eq_some_iff.1 h;rw [List.drop_eq_getElem_cons hk];unfold skE;rw [if_pos hy,if_pos h6]
theorem Jtl {y:ByteArray→Bool} {k:Nat} {L:List ByteArray} {x:ByteArray} (h:L[k]?=some x) (hy:y x=true) (h6:k<64):skE y k (L.drop k)=skE y (k+1) (L.drop (k+1)):=by
 obtain⟨hk,rfl⟩:=List.getElem?_eq_some_iff.1 h;rw [List.drop_eq_getElem_cons hk]
 conv=>lhs;unfold skE
 rw [if_pos hy,if_neg (by omega)]
def Tx (w:World) (B:Nat) (A:Option Addr) (L:List ByteArray):Prop:=∀(i:Nat) (x:ByteArray),L[i]?=some x→∃b off,A=some ⟨b,off,none⟩∧b<B∧w.cell? ⟨b,off+i,none⟩=some (.string x)
theorem Tx.keep {w w':World} {B:Nat} {A:Option Addr} {L:List ByteArray} (h:Tx w B A L) (hb:Below B w w'):Tx w' B A L:=fun i x hx=>by
 obtain⟨b,off,h1,h2,h3⟩:=h i x hx;exact⟨b,off,h1,h2,(hb.cell (p:=⟨b,off+i,none⟩) h2).trans h3⟩
structure SkI (w:World) (k:Nat) (A:Option Addr) (c:Nat) (L:List (Nat×Int)) (wr:World):Prop where
 res:wr.heap[w.heap.size]?=some (.cells #[.slice none 0 0,.int .i64 0] 38 (0,0))
 box:wr.heap[w.heap.size+1]?=some (.cells #[.slice A L.length c,.int .i64 (k:Int)] 38 (0,0))
 len:L.length=k
 le:k≤64
 slc:SlcP wr (Pn w wr) A c L
 below:Below w.heap.size w wr
theorem SkI.big {w:World} {k:Nat} {A:Option Addr} {c:Nat} {L:List (Nat×Int)} {wr:World} (h:SkI w k A c L wr):w.heap.size+2≤wr.heap.size:=by
 have:=lt_of_some h.box;omega
theorem SkI.later {w:World} {k:Nat} {A:Option Addr} {c:Nat} {L:List (Nat×Int)} {wr w2:World} (h:SkI w k A c L wr) (hb:Below wr.heap.size wr w2):SkI w k A c L w2:=
 ⟨(hb.block _ (lt_of_some h.res)).trans h.res,(hb.block _ (lt_of_some h.box)).trans h.box,h.len,h.le,h.slc.keep fun b hp=>⟨hb.block b hp.2,hp.1,Nat.lt_of_lt_of_le hp.2 hb.size⟩,h.below.trans (hb.mono h.below.size)⟩
theorem SkI.next {w:World} {k g:Nat} {A A':Option Addr} {c c':Nat} {L:List (Nat×Int)} {w2 w3:World} (h:SkI w k A c L w2) (hlt:k<64)
  (ho:Owned w3 w2.heap.size (L.length+1) (.slice A' (L.length+1) c') ((g,(k:Int))::L)) (hb:Below w2.heap.size w2 w3):
  SkI w (k+1) A' c' ((g,(k:Int))::L) ((w3.setCell ⟨w.heap.size+1,0,none⟩ (.slice A' (L.length+1) c')).setCell ⟨w.heap.size+1,1,none⟩ (.int .i64 ((k:Int)+1))):=by
 obtain⟨w4,hw4⟩:=words.nm ((w3.setCell ⟨w.heap.size+1,0,none⟩ (.slice A' (L.length+1) c')).setCell ⟨w.heap.size+1,1,none⟩ (.int .i64 ((k:Int)+1)));rw [←hw4];have h3:=h.later hb;have hbig:=h.big;have hsz:w4.heap.size=w3.heap.size:=by rw [hw4];simp
 have hblk:∀b,b≠w.heap.size+1→w4.heap[b]?=w3.heap[b]?:=fun b hne=>by
  rw [hw4,heap_setCell_other _ _ _ _ hne,heap_setCell_other _ _ _ _ hne]
 refine⟨(hblk _ (by omega)).trans h3.res,by rw [hw4];exact over2 h3.box,by rw [List.length_cons,h.len],hlt,?_,?_⟩
 ·exact ho.slcP.keep fun b hb'=>⟨hblk b (by have:=hb'.1;omega),Nat.le_trans hbig hb'.1,by rw [hsz];exact hb'.2⟩
 ·rw [hw4]
  exact (h3.below.setCell (p:=⟨w.heap.size+1,0,none⟩) (by show w.heap.size≤w.heap.size+1;omega) _).setCell (p:=⟨w.heap.size+1,1,none⟩) (by show w.heap.size≤w.heap.size+1;omega) _
def SkOut (z:Int) (n:Nat) (w:World) (e:Ending) (w':World):Prop:=
 ((z=0∧∃A c,e= .returned (.tuple #[.agg #[.slice A n c,.int .i64 (n:Int)],.int .i64 0]))∨(z≠0∧e= .returned (.tuple #[.agg #[.slice none 0 0,.int .i64 0],.int .i64 z])))∧Below w.heap.size w w'
theorem Jyd {w w3:World} {z:Int} {n k:Nat} {A:Option Addr} {c:Nat} {L:List (Nat×Int)} (h:SkI w k A c L w3) (hz:z≠0):
  ∀W4,W4=(w3.setCell ⟨w.heap.size,0,none⟩ (.slice none 0 0)).setCell ⟨w.heap.size,1,none⟩ (.int .i64 0)→W4.cell? ⟨w.heap.size,0,none⟩=some (.slice none 0 0)∧W4.cell? ⟨w.heap.size,1,none⟩=some (.int .i64 0)∧SkOut z n w (.returned (.tuple #[.agg #[.slice none 0 0,.int .i64 0],.int .i64 z])) W4:=fun W4 hW4=>by
 have h4:=over2 (u0:= .slice none 0 0) (u1:= .int .i64 0) h.res;rw [←hW4] at h4;have hb4:Below w.heap.size w W4:=by rw [hW4];exact (h.below.setCell (p:=⟨w.heap.size,0,none⟩) (Nat.le_refl _) _).setCell (p:=⟨w.heap.size,1,none⟩) (Nat.le_refl _) _
 exact⟨Jaa h4 0,Jaa h4 1,.inr ⟨hz,rfl⟩,hb4⟩
theorem Jly (y:ByteArray→Bool) (A:Option Addr) (c:Nat) (L:List ByteArray) (m:Int) (w:World) (hL:Tx w w.heap.size A L) (hm:w.cell? ⟨1,0,none⟩=some (.int .i64 m))
  (hy:∀x∈L,(y x=true→OpenY x)∧(y x=false→OpenN x)):
  Calls prog 21 #[.slice A L.length c] w (SkOut (skE y 0 L) L.length w):=by
 obtain⟨Wa,hWa⟩:=words.nm (w.alloc (.cells #[.slice none 0 0,.int .i64 0] 38));obtain⟨W1,hW1⟩:=words.nm (Wa.alloc (.cells #[.slice none 0 0,.int .i64 0] 38));have hz:Wa.heap.size=w.heap.size+1:=by rw [hWa];simp
 have hba:=words.b1 hWa;have hb1:Below w.heap.size w W1:=by rw [hW1];exact hba.alloc hba.size _
 have hs1:W1.heap[w.heap.size]?=some (.cells #[.slice none 0 0,.int .i64 0] 38 (0,0)):=by
  rw [hW1];refine (Below.heap_alloc Wa _ _ (by omega)).trans ?_;rw [hWa];exact heap_alloc_new w _
 have hr1:W1.heap[w.heap.size+1]?=some (.cells #[.slice none 0 0,.int .i64 0] 38 (0,0)):=by rw [hW1,←hz];exact heap_alloc_new Wa _
 have H1:Hid (SkI w 0 none 0 [] W1):=hid ⟨hs1,hr1,rfl,by omega,⟨fun i x hx=>by simp at hx,Nat.le_refl _,by unfold maxLen;omega,fun _=>⟨rfl,rfl⟩⟩,hb1⟩;have HT:=hid hL;have HM:=hid hm;have HD:=hid hy;obtain⟨Z,hZ⟩:=words.nm (skE y 0 L);have HZ0:Hid (Z=skE y 0 (L.drop 0)):=hid hZ;rw [←hZ];rw [hWa] at hW1;have HW1:=hid hW1;clear hL hm hy hba hb1 hs1 hr1 hW1 hWa hz hZ;go_enter func21,ntmps21
 go_upto_region 2 with fail
 rw [←HW1.out];go_wp2_with fail
 go_loopw [11] (fun v wr=>∃(k:Nat) (A1:Option Addr) (c1:Nat) (R:List (Nat×Int)),v= .int .i64 (k:Int)∧k≤L.length∧Hid (SkI w k A1 c1 R wr)∧Hid (Z=skE y k (L.drop k))) (fun v _=>L.length - (intOf v).toNat)
 case atStart=>exact⟨0,none,0,[],rfl,Nat.zero_le _,H1,HZ0⟩
 case round=>
  obtain⟨k,A1,c1,R,rfl,hk,HI,HZ⟩:=hrel;clear HZ0;by_cases hlt:k<L.length
  ·obtain⟨x,hx⟩:∃x,L[k]?=some x:=⟨_,List.getElem?_eq_getElem hlt⟩
   obtain⟨b,off,hA,hb,hcl⟩:=(HT.out.keep HI.out.below) k x hx;subst hA;have i0:(0:Int)≤(k:Int):=by omega
   have i1:(k:Int)<(L.length:Int):=by omega
   obtain⟨d1,d2⟩:=HD.out x (List.mem_of_getElem? hx);have Hx:=hid hx;clear hx;rcases hyx:y x with _ |_
   ·obtain⟨q1,q2,q3⟩:=d2 hyx
    have HC:=hid (Jws x m wr (Jao HM.out HI.out.below) q2 q3 q1);have HZ1:Hid (Z=1):=hid (HZ.out.trans (Jx8 Hx.out hyx));clear d1 d2 q1 q2 q3 hyx hb;go_wp2_with fail
    refine HC.out.mono ?_;rintro e w3 ⟨rfl,hb3⟩;have hI3:=HI.out.later hb3;have r0:w3.cell? ⟨w.heap.size,0,none⟩=some (.slice none 0 0):=Jaa hI3.res 0;have r1:w3.cell? ⟨w.heap.size,1,none⟩=some (.int .i64 0):=Jaa hI3.res 1;have f0:=Jab hI3.res 0;have f1:=Jab hI3.res 1;have HE:=hid (Jyd (z:=Z) (n:=L.length) hI3 (by rw [HZ1.out];decide));clear hb3 hI3 HC HI HZ hcl;go_wp2_with fail
    obtain⟨p0,p1,p2⟩:=HE.out _ rfl;exact bodyPost_ret (v:= .tuple #[.agg #[.slice none 0 0,.int .i64 0],.int .i64 1]) (by simp [results,results21,go_sem,p0,p1]) rfl (by rw [HZ1.out] at p2 ⊢;exact p2)
   ·obtain⟨n,e1,e2,e3,e4,e5,e6⟩:=d1 hyx
    have hC:=Jul n m wr (Jao HM.out HI.out.below) e2 e3 e4 e5 e6;rw [e1] at hC;have HC:=hid hC;have HY:=hid hyx;clear d1 d2 e1 e2 e3 e4 e5 e6 hyx hb hC;go_wp2_with fail
    refine HC.out.mono ?_;rintro e w3 ⟨⟨g,rfl,hg⟩,hb3⟩;have hI3:=HI.out.later hb3;have hle:=hI3.le;have hLl:R.length≤k∧k≤R.length:=by have:=hI3.len;omega
    obtain⟨hL1,hL2⟩:=hLl;have s0:w3.cell? ⟨w.heap.size+1,0,none⟩=some (.slice A1 R.length c1):=Jaa hI3.box 0;have s1:w3.cell? ⟨w.heap.size+1,1,none⟩=some (.int .i64 (k:Int)):=Jaa hI3.box 1;by_cases h64:k<64
    ·have hA:=Jvy A1 c1 (k:Int) g R w3 (hI3.slc.slc fun b hb=>hb.2) (by omega) (by omega) (by omega)
     unfold stkV at hA;have HA:=hid hA;have HI3:=hid hI3;have HZ2:=hid (HZ.out.trans (Jtl Hx.out HY.out h64));clear hA hg hb3 hI3 HC HI HZ hcl;go_wp2_with fail
     refine HA.out.mono ?_;rintro e w4 ⟨A4,c4,rfl,ho4,hb4⟩;have hI4:=HI3.out.later hb4;have t0:w4.cell? ⟨w.heap.size+1,0,none⟩=some (.slice A1 R.length c1):=Jaa hI4.box 0;have t1:w4.cell? ⟨w.heap.size+1,1,none⟩=some (.int .i64 (k:Int)):=Jaa hI4.box 1;have f0:=Jab hI4.box 0;have f1:=Jab hI4.box 1;have HN:=hid (HI3.out.next h64 ho4 hb4);unfold stkV;rw [List.length_cons];clear ho4 hb4 hI4 HA HI3 s0 s1;go_wp2_with fail
     go_roundw
     case rel=>exact⟨k+1,A4,c4,_,by go_num,by omega,HN,HZ2⟩
     case measure=>simp [intOf];omega
    ·have hA:=Jyt A1 R.length c1 (k:Int) (some ⟨g,0,none⟩) w3 (by omega)
     unfold stkV at hA;have HA:=hid hA;have HI3:=hid hI3;have HZ6:Hid (Z=6):=hid (HZ.out.trans (Juw Hx.out HY.out (by omega)));clear hA hg hb3 hI3 HC HI HZ hcl;go_wp2_with fail
     refine HA.out.mono ?_;rintro e w4 ⟨rfl,hb4⟩;have hI4:=HI3.out.later hb4;have hbig:=hI4.big;have t0:w4.cell? ⟨w.heap.size+1,0,none⟩=some (.slice A1 R.length c1):=Jaa hI4.box 0;have t1:w4.cell? ⟨w.heap.size+1,1,none⟩=some (.int .i64 (k:Int)):=Jaa hI4.box 1;have f0:=Jab hI4.box 0;have f1:=Jab hI4.box 1;obtain⟨W5,hW5⟩:=words.nm ((w4.setCell ⟨w.heap.size+1,0,none⟩ (.slice A1 R.length c1)).setCell ⟨w.heap.size+1,1,none⟩ (.int .i64 (k:Int)));have hn5:∀b,b≠w.heap.size+1→W5.heap[b]?=w4.heap[b]?:=fun b hne=>by rw [hW5,heap_setCell_other _ _ _ _ hne,heap_setCell_other _ _ _ _ hne]
     have hr5:=(hn5 w.heap.size (by omega)).trans hI4.res;have r0:W5.cell? ⟨w.heap.size,0,none⟩=some (.slice none 0 0):=Jaa hr5 0;have r1:W5.cell? ⟨w.heap.size,1,none⟩=some (.int .i64 0):=Jaa hr5 1;have g0:=Jab hr5 0;have g1:=Jab hr5 1;obtain⟨W6,hW6⟩:=words.nm ((W5.setCell ⟨w.heap.size,0,none⟩ (.slice none 0 0)).setCell ⟨w.heap.size,1,none⟩ (.int .i64 0));have h6:=over2 (u0:= .slice none 0 0) (u1:= .int .i64 0) hr5;rw [←hW6] at h6;have p0:W6.cell? ⟨w.heap.size,0,none⟩=some (.slice none 0 0):=Jaa h6 0;have p1:W6.cell? ⟨w.heap.size,1,none⟩=some (.int .i64 0):=Jaa h6 1;have hb5:Below w.heap.size w W5:=by rw [hW5];exact (hI4.below.setCell (p:=⟨w.heap.size+1,0,none⟩) (by show w.heap.size≤w.heap.size+1;omega) _).setCell (p:=⟨w.heap.size+1,1,none⟩) (by show w.heap.size≤w.heap.size+1;omega) _
     have hb6:Below w.heap.size w W6:=by rw [hW6];exact (hb5.setCell (p:=⟨w.heap.size,0,none⟩) (Nat.le_refl _) _).setCell (p:=⟨w.heap.size,1,none⟩) (Nat.le_refl _) _
     have HE:Hid (SkOut Z L.length w (.returned (.tuple #[.agg #[.slice none 0 0,.int .i64 0],.int .i64 6])) W6):=hid (by rw [HZ6.out];exact⟨.inr ⟨by decide,rfl⟩,hb6⟩);have HW5:=hid hW5;have HW6:=hid hW6;clear hb4 hI4 hn5 hr5 h6 hb5 hb6 hW5 hW6 HA HI3 s0 s1;go_upto_region 8 with fail
     rw [←HW5.out];go_wp2_with fail
     rw [←HW6.out];exact bodyPost_ret (v:= .tuple #[.agg #[.slice none 0 0,.int .i64 0],.int .i64 6]) (by simp [results,results21,go_sem,p0,p1]) rfl HE.out
  ·obtain rfl:k=L.length:=by omega
   have s0:wr.cell? ⟨w.heap.size+1,0,none⟩=some (.slice A1 R.length c1):=Jaa HI.out.box 0;have s1:wr.cell? ⟨w.heap.size+1,1,none⟩=some (.int .i64 (L.length:Int)):=Jaa HI.out.box 1;have r0:wr.cell? ⟨w.heap.size,0,none⟩=some (.slice none 0 0):=Jaa HI.out.res 0;have r1:wr.cell? ⟨w.heap.size,1,none⟩=some (.int .i64 0):=Jaa HI.out.res 1;have f0:=Jab HI.out.res 0;have f1:=Jab HI.out.res 1;obtain⟨W4,hW4⟩:=words.nm ((wr.setCell ⟨w.heap.size,0,none⟩ (.slice A1 R.length c1)).setCell ⟨w.heap.size,1,none⟩ (.int .i64 (L.length:Int)));have h4:=over2 (u0:= .slice A1 R.length c1) (u1:= .int .i64 (L.length:Int)) HI.out.res;rw [←hW4] at h4;have p0:W4.cell? ⟨w.heap.size,0,none⟩=some (.slice A1 R.length c1):=Jaa h4 0;have p1:W4.cell? ⟨w.heap.size,1,none⟩=some (.int .i64 (L.length:Int)):=Jaa h4 1;have hb4:Below w.heap.size w W4:=by rw [hW4];exact (HI.out.below.setCell (p:=⟨w.heap.size,0,none⟩) (Nat.le_refl _) _).setCell (p:=⟨w.heap.size,1,none⟩) (Nat.le_refl _) _
   have HE:Hid (SkOut Z L.length w (.returned (.tuple #[.agg #[.slice A1 R.length c1,.int .i64 (L.length:Int)],.int .i64 0])) W4):=hid ⟨.inl ⟨HZ.out.trans (by rw [List.drop_length];rfl),A1,c1,by rw [HI.out.len]⟩,hb4⟩;have HW4:=hid hW4;clear h4 hb4 hW4 HI;go_wp2_with fail
   rw [←HW4.out];exact bodyPost_ret (v:= .tuple #[.agg #[.slice A1 R.length c1,.int .i64 (L.length:Int)],.int .i64 0]) (by simp [results,results21,go_sem,p0,p1]) rfl HE.out
end Go.Proofs.YtekekhgjobahaaaGreatDoor.scr

namespace Go.Proofs.YtekekhgjobahaaaGreatDoor.rep
open Go.RowKit words cal scr

def scI (I:List ByteArray):ScB:=⟨0,0,0,I,[],[]⟩
def ImgO (I:List ByteArray) (Z:Int) (w:World) (e:Ending) (w':World):Prop:=((Z≠0∧e= .returned (.agg #[.int .i64 0,.int .i64 Z,.slice none 0 0,.int .i64 (-1),.int .i64 0,.slice none 0 0,.int .i64 0,.int .i64 0]))∨(Z=0∧∃As cs,e= .returned (.agg #[.int .i64 0,.int .i64 0,.slice none 0 0,.int .i64 (-1),.int .i64 0,.slice As I.length cs,.int .i64 (I.length:Int),.int .i64 0])))∧Below w.heap.size w w'
theorem Jps (m:Int) (T:ByteArray) (I:List ByteArray) (y:ByteArray→Bool) (w:World) (hT:T.size≤900000) (hE:Env m w) (hp:parseS T.data.toList= .inl (scI I).m) (hy:∀x∈I,(y x=true→OpenY x)∧(y x=false→OpenN x)):
  Calls prog 8 #[.string T] w (ImgO I (skE y 0 I) w):=by
 obtain⟨Z,hZ⟩:=words.nm (skE y 0 I);rw [←hZ];obtain⟨W1,hW1⟩:=words.nm (w.alloc (.cells #[.int .i64 0,.int .i64 0,.slice none 0 0,.int .i64 0,.int .i64 0,.slice none 0 0,.int .i64 0,.int .i64 0] 40));obtain⟨hx,hb1⟩:=stp.new hW1;obtain⟨rb,hrb⟩:∃g,g=w.heap.size:=⟨_,rfl⟩
 rw [←hrb] at hx;have HG:=hid hrb;have HB1:=hid hb1;have HX:=hid hx;have HW:=hid hW1.symm;have HP:Hid (Calls prog 7 #[.string T] W1 fun e w'=>(∃Ai ci Ac cc Ap cp,e= .returned (.tuple #[.agg #[.int .i64 0,.int .i64 0,.int .i64 0,.slice Ai I.length ci,.slice Ac 0 cc,.slice Ap 0 cp],.int .i64 0])∧Tx w' w'.heap.size Ai I)∧Below W1.heap.size W1 w'):=hid ((Jc2 m T W1 hT (hE.later hb1)).mono fun e w' ho=>by
   obtain⟨ho,hb⟩:=ho;refine⟨?_,hb⟩;rcases ho with⟨S,vi,vc,vp,h1,h2,hown,_⟩ |⟨b',h1,_⟩
   ·rw [hp] at h1
    injection h1 with h1;have hS:=Jqv h1;subst hS;obtain⟨Ai,ci,Ac,cc,Ap,cp,rfl,rfl,rfl,hsc⟩:=hown.form;exact⟨Ai,ci,Ac,cc,Ap,cp,h2,hsc.im⟩
   ·rw [hp] at h1;cases h1)
 have HSt:Hid (∀Ai ci w',Tx w' w'.heap.size Ai I→Below W1.heap.size W1 w'→Calls prog 21 #[.slice Ai I.length ci] w' (SkOut Z I.length w')):=hid fun Ai ci w' ht hb=>by
  rw [hZ];exact Jly y Ai ci I m w' ht ((hE.later hb1).later hb).max hy
 clear hW1 hx hb1 hrb hE hp hy hZ;go_enter func8,ntmps8
 go_upto_region 1 with fail
 rw [HW.out];simp only [←HG.out];clear HW;go_wp2_with fail
 refine HP.out.mono ?_;rintro e w2 ⟨⟨Ai,ci,Ac,cc,Ap,cp,rfl,htx⟩,hb2⟩;obtain⟨W3,hW3⟩:=words.nm (w2.alloc (.cells #[.int .i64 0,.int .i64 0,.int .i64 0,.slice Ai I.length ci,.slice Ac 0 cc,.slice Ap 0 cp] 31));obtain⟨hx3,hb3⟩:=stp.new hW3;obtain⟨g3,hg3⟩:∃g,g=w2.heap.size:=⟨_,rfl⟩
 rw [←hg3] at hx3;have HG3:=hid hg3;have HX3:=hid hx3;have HB3:=hid (hb2.trans (hb3.mono hb2.size));have HSk:=hid (HSt.out Ai ci W3 (fun i x hi=>by
   obtain⟨b,off,e1,e2,e3⟩:=htx i x hi;exact⟨b,off,e1,Nat.lt_of_lt_of_le e2 hb3.size,(hb3.cell (p:=⟨b,off+i,none⟩) e2).trans e3⟩) HB3.out)
 have HW3:=hid hW3.symm;clear hb2 hW3 hx3 hb3 hg3 htx HP HSt;go_upto_region 2 with (refine stp.wl_put (vs:=[.int .i64 0,.int .i64 0,.int .i64 0,.slice Ai I.length ci,.slice Ac 0 cc,.slice Ap 0 cp]) (zs:=[.int .i64 0,.int .i64 0,.int .i64 0,.slice none 0 0,.slice none 0 0,.slice none 0 0]) rfl rfl rfl rfl rfl rfl (by kernel_rfl) (by simp [Value.oneCell']) ?_)
 rw [HW3.out];simp only [←HG3.out];clear HW3;obtain⟨s0,s1,s2,s3,s4,s5⟩:=stp.cs6 HX3.out;go_wp2_with fail
 refine HSk.out.mono ?_;rintro e w4 ⟨(⟨hz,As,cs,rfl⟩ |⟨hz,rfl⟩),hb4⟩
 rotate_left 1
 ·obtain⟨W5,hW5⟩:=words.nm (w4.alloc (.cells #[.slice none 0 0,.int .i64 0] 38))
  have hb5:=(stp.new hW5).2;have HB5:=hid (HB3.out.trans ((hb4.trans (hb5.mono hb4.size)).mono HB3.out.size));have HW5:=hid hW5.symm;have gz:(Z !=0)=true:=by rw [bne_iff_ne];exact hz
  have HZ:=hid hz;clear hb4 hW5 hb5 hz HSk s0 s1 s2 s3 s4 s5;go_upto_region 5 with (refine stp.wl_put (vs:=[.slice none 0 0,.int .i64 0]) (zs:=[.slice none 0 0,.int .i64 0]) rfl rfl rfl rfl rfl rfl (by kernel_rfl) (by simp [Value.oneCell']) ?_)
  rw [HW5.out];clear HW5;have ex:=stp.old HB5.out HX.out;have HTh:=hid (stp.there (cs:=[.int .i64 0,.int .i64 0,.slice none 0 0,.int .i64 0,.int .i64 0,.slice none 0 0,.int .i64 0,.int .i64 0]) ex (show 0+8≤8 by decide));obtain⟨V6,hV6⟩:∃V,V=World.setCells W5 rb 0 [.int .i64 0,.int .i64 Z,.slice none 0 0,.int .i64 (-1),.int .i64 0,.slice none 0 0,.int .i64 0,.int .i64 0]:=⟨_,rfl⟩
  have hy:V6.heap[rb]?=some (.cells #[.int .i64 0,.int .i64 Z,.slice none 0 0,.int .i64 (-1),.int .i64 0,.slice none 0 0,.int .i64 0,.int .i64 0] 40 (0,0)):=by rw [hV6];exact stp.put (cs:=[.int .i64 0,.int .i64 0,.slice none 0 0,.int .i64 0,.int .i64 0,.slice none 0 0,.int .i64 0,.int .i64 0]) ex 0 _ (show 0+8≤8 by decide)
  have hbv:Below w.heap.size w V6:=by rw [hV6];exact stp.below_cells (by rw [HG.out];exact Nat.le_refl _) _ _ _ (HB1.out.trans (HB5.out.mono HB1.out.size))
  have HV:=hid hV6.symm;have HY:=hid hy;have HBv:=hid hbv;clear ex hV6 hy hbv;go_wp2_with (refine wpList_store_mid rfl 40 _ _ rfl rb 0 _ rfl rfl HTh.out (by kernel_rfl) (by simp [Value.oneCell']) ?_;rw [HV.out])
  obtain⟨p0,p1,p2,p3,p4,p5,p6,p7⟩:=stp.cs8 HY.out;exact bodyPost_ret (v:= .agg #[.int .i64 0,.int .i64 Z,.slice none 0 0,.int .i64 (-1),.int .i64 0,.slice none 0 0,.int .i64 0,.int .i64 0]) (by simp [results,results8,go_sem,p0,p1,p2,p3,p4,p5,p6,p7]) rfl ⟨.inl ⟨HZ.out,rfl⟩,HBv.out⟩
 obtain⟨W5,hW5⟩:=words.nm (w4.alloc (.cells #[.slice As I.length cs,.int .i64 (I.length:Int)] 38));obtain⟨hx5,hb5⟩:=stp.new hW5;obtain⟨g5,hg5⟩:∃g,g=w4.heap.size:=⟨_,rfl⟩
 rw [←hg5] at hx5;have HG5:=hid hg5;have HX5:=hid hx5;have HB35:=hid (hb4.trans (hb5.mono hb4.size));have HB5:=hid (HB3.out.trans (HB35.out.mono HB3.out.size));have HW5:=hid hW5.symm;have HX35:=hid (stp.old HB35.out HX3.out);have HZ:=hid hz;clear hb4 hW5 hx5 hb5 hg5 hz HSk s0 s1 s2 s3 s4 s5;go_upto_region 5 with (refine stp.wl_put (vs:=[.slice As I.length cs,.int .i64 (I.length:Int)]) (zs:=[.slice none 0 0,.int .i64 0]) rfl rfl rfl rfl rfl rfl (by kernel_rfl) (by simp [Value.oneCell']) ?_)
 rw [HW5.out];simp only [←HG5.out];clear HW5;obtain⟨s0,s1,s2,s3,s4,s5⟩:=stp.cs6 HX35.out;obtain⟨t0,t1⟩:=stp.cs2 HX5.out;have hpl:=Jsl As cs (List.replicate I.length (0,0)) (I.length:Int) Ac Ap cc cp W5;rw [List.length_replicate] at hpl;have HPl5:=hid hpl;clear hpl;go_wp2_with fail
 refine HPl5.out.mono ?_;rintro e w6 ⟨x,v,B,s,t,mm,rfl,hc1,hc2,hsp,hb6⟩;have hsb:=hsp.blk;rw [List.length_replicate] at hsb;have HSb:=hid hsb;have HSp:=hid hsp;have HXv:=hid (And.intro hc1 hc2);have HB6:=hid (HB5.out.trans (hb6.mono HB5.out.size));have HX56:=hid (stp.old hb6 HX5.out);have HX36:=hid (stp.old hb6 HX35.out);clear hc1 hc2 hsp hsb hb6 HPl5 s0 s1 s2 s3 s4 s5 t0 t1;have HC:Hid (∀w',Below w6.heap.size w6 w'→(w'.cell? ⟨g5,0,none⟩=some (.slice As I.length cs)∧w'.cell? ⟨g5,1,none⟩=some (.int .i64 (I.length:Int))∧w'.cell? ⟨g3,2,none⟩=some (.int .i64 0))∧w'.cell? ⟨x,0,none⟩=some (.pointer (some ⟨v,0,none⟩))∧w'.cell? ⟨v,0,none⟩=some (.pointer (some ⟨s,0,none⟩))∧w'.cell? ⟨s,0,none⟩=some (.slice As I.length cs)∧w'.cell? ⟨s,1,none⟩=some (.int .i64 (I.length:Int))∧w'.cell? ⟨s,2,none⟩=some (.int .i64 0)∧w'.cell? ⟨s,3,none⟩=some (.pointer (some ⟨t,0,none⟩))):=hid fun w' hb=>by
  have e5:=stp.cs2 (stp.old hb HX56.out);have e3:=stp.cs6 (stp.old hb HX36.out);have es:=stp.cs4 (stp.old hb HSb.out);exact⟨⟨e5.1,e5.2,e3.2.2.1⟩,(hb.cell (p:=⟨x,0,none⟩) (World.block_lt_of_cell? w6 _ HXv.out.1)).trans HXv.out.1,(hb.cell (p:=⟨v,0,none⟩) (World.block_lt_of_cell? w6 _ HXv.out.2)).trans HXv.out.2,es⟩
 have HBd:Hid (Below w6.heap.size w6 w6.drew):=hid (Below.refl _ _).drew;have HWr:Hid (∀w',Below w6.heap.size w6 w'→Calls prog 23 #[.agg #[.slice As I.length cs,.int .i64 (I.length:Int)],.int .i64 0,.slice none 0 0] w' fun e w''=>e= .returned (.int .i64 (-1))∧Below w'.heap.size w' w''):=hid fun w' hb=>by
  have h:=Jo1 As cs (List.replicate I.length (0,0)) (I.length:Int) 0 none 0 (fun _=>rfl) w';rw [List.length_replicate] at h;exact h
 have HLn:Hid (∀w',Below w6.heap.size w6 w'→Calls prog 24 #[.pointer (some ⟨t,0,none⟩)] w' fun e w''=>e= .returned (.int .i64 0)∧w'=w''):=hid fun w' hb=>cur.clen_any (h:=(HSp.out.later hb).tb);go_upto_region 8 with fail
 refine held.wpT_start (S:=fun w'=>Below w6.heap.size w6 w') (T:=fun k=>k==39) (by kernel_rfl) ?_;refine stp.tk 0 39 ?_;refine stp.ld 1 40 (HBd.out) ?_ (hv:=by intro w' h;obtain⟨⟨t0,t1,s2⟩,x0,v0,d0,d1,d2,d3⟩:=HC.out w' h;clear h;go_simp;(try with_reducible rfl));refine stp.tk 2 41 ?_;refine stp.tk 3 42 ?_;refine stp.ld 4 43 (HBd.out) ?_ (hv:=by intro w' h;obtain⟨⟨t0,t1,s2⟩,x0,v0,d0,d1,d2,d3⟩:=HC.out w' h;clear h;go_simp;(try with_reducible rfl));refine stp.tk 5 44 ?_;refine stp.tk 7 46 ?_;refine stp.tk 8 47 ?_;refine stp.tk 9 48 ?_;refine stp.ld 10 49 (HBd.out) ?_ (hv:=by intro w' h;obtain⟨⟨t0,t1,s2⟩,x0,v0,d0,d1,d2,d3⟩:=HC.out w' h;clear h;go_simp;(try with_reducible rfl));refine stp.tk 11 50 ?_;refine stp.tk 12 51 ?_;refine stp.ld 13 52 (HBd.out) ?_ (hv:=by intro w' h;obtain⟨⟨t0,t1,s2⟩,x0,v0,d0,d1,d2,d3⟩:=HC.out w' h;clear h;go_simp;(try with_reducible rfl));refine stp.tk 14 53 ?_;refine stp.tk 15 54 ?_;refine stp.ld 16 55 (HBd.out) ?_ (hv:=by intro w' h;obtain⟨⟨t0,t1,s2⟩,x0,v0,d0,d1,d2,d3⟩:=HC.out w' h;clear h;go_simp;(try with_reducible rfl));refine stp.tk 17 56 ?_;refine stp.tk 18 57 ?_;refine stp.tk 19 58 ?_;refine stp.ld 20 59 (HBd.out) ?_ (hv:=by intro w' h;obtain⟨⟨t0,t1,s2⟩,x0,v0,d0,d1,d2,d3⟩:=HC.out w' h;clear h;go_simp;(try with_reducible rfl));refine stp.tk 21 60 ?_;refine stp.tk 22 61 ?_;refine stp.ld 23 62 (HBd.out) ?_ (hv:=by intro w' h;obtain⟨⟨t0,t1,s2⟩,x0,v0,d0,d1,d2,d3⟩:=HC.out w' h;clear h;go_simp;(try with_reducible rfl));refine stp.tk 24 63 ?_;refine stp.tk 25 64 ?_;refine stp.ld 26 65 (HBd.out) ?_ (hv:=by intro w' h;obtain⟨⟨t0,t1,s2⟩,x0,v0,d0,d1,d2,d3⟩:=HC.out w' h;clear h;go_simp;(try with_reducible rfl));refine stp.tk 27 66 ?_;refine stp.tk 28 67 ?_;refine stp.tk 29 68 ?_;refine stp.ld 30 69 (HBd.out) ?_ (hv:=by intro w' h;obtain⟨⟨t0,t1,s2⟩,x0,v0,d0,d1,d2,d3⟩:=HC.out w' h;clear h;go_simp;(try with_reducible rfl));refine stp.tk 31 70 ?_;refine stp.tk 32 71 ?_;refine stp.ld 33 72 (HBd.out) ?_ (hv:=by intro w' h;obtain⟨⟨t0,t1,s2⟩,x0,v0,d0,d1,d2,d3⟩:=HC.out w' h;clear h;go_simp;(try with_reducible rfl));refine stp.tk 34 73 ?_;refine stp.tk 35 74 ?_;refine stp.ld 36 75 (HBd.out) ?_ (hv:=by intro w' h;obtain⟨⟨t0,t1,s2⟩,x0,v0,d0,d1,d2,d3⟩:=HC.out w' h;clear h;go_simp;(try with_reducible rfl));refine held.wpT_one (i:=6) (by kernel_rfl) rfl (fun Kc hK=>?_);go_simp
 go_at_call 23
 refine (HWr.out _ HBd.out).mono ?_;rintro en w7 ⟨rfl,hb7⟩;have HB7:=hid (HBd.out.trans (hb7.mono HBd.out.size));clear hb7 HWr;refine hK.out _ _ (fun _ _=>HB7.out) ?_;clear hK;try simp only [stp.pt]
 refine held.wpT_one (i:=37) (by kernel_rfl) rfl (fun Kc hK=>?_);go_simp
 go_at_call 24
 refine (HLn.out _ HB7.out).mono ?_;rintro en w8 ⟨rfl,rfl⟩;refine hK.out _ _ (fun _ _=>HB7.out) ?_;clear hK;try simp only [stp.pt]
 refine stp.tk 38 77 ?_;refine held.wpT_one (i:=39) (by kernel_rfl) rfl (fun Kc hK=>?_);have HB67:=hid (HB6.out.trans (HB7.out.mono HB6.out.size));have ex:=stp.old HB67.out HX.out;have HTh:=hid (stp.there (cs:=[.int .i64 0,.int .i64 0,.slice none 0 0,.int .i64 0,.int .i64 0,.slice none 0 0,.int .i64 0,.int .i64 0]) ex (show 0+8≤8 by decide));obtain⟨V9,hV9⟩:∃V,V=World.setCells w7 rb 0 [.int .i64 0,.int .i64 0,.slice none 0 0,.int .i64 (-1),.int .i64 0,.slice As I.length cs,.int .i64 (I.length:Int),.int .i64 0]:=⟨_,rfl⟩
 have hy:V9.heap[rb]?=some (.cells #[.int .i64 0,.int .i64 0,.slice none 0 0,.int .i64 (-1),.int .i64 0,.slice As I.length cs,.int .i64 (I.length:Int),.int .i64 0] 40 (0,0)):=by rw [hV9];exact stp.put (cs:=[.int .i64 0,.int .i64 0,.slice none 0 0,.int .i64 0,.int .i64 0,.slice none 0 0,.int .i64 0,.int .i64 0]) ex 0 _ (show 0+8≤8 by decide)
 have hbv:Below w.heap.size w V9:=by rw [hV9];exact stp.below_cells (by rw [HG.out];exact Nat.le_refl _) _ _ _ (HB1.out.trans (HB67.out.mono HB1.out.size))
 have HV:=hid hV9.symm;have HY:=hid hy;have HBv:=hid hbv;clear ex hV9 hy hbv;rw [if_pos (by kernel_rfl)];refine wp_store_mid 40 _ _ rfl rb 0 _ rfl rfl HTh.out (by kernel_rfl) (by simp [Value.oneCell']) ?_;rw [HV.out];refine hK.out _ _ (fun h=>absurd h (by decide)) ?_;clear hK;try simp only
 refine held.wpT_done (by kernel_rfl) ?_ _;go_wp2_with fail
 obtain⟨p0,p1,p2,p3,p4,p5,p6,p7⟩:=stp.cs8 HY.out;exact bodyPost_ret (v:= .agg #[.int .i64 0,.int .i64 0,.slice none 0 0,.int .i64 (-1),.int .i64 0,.slice As I.length cs,.int .i64 (I.length:Int),.int .i64 0]) (by simp [results,results8,go_sem,p0,p1,p2,p3,p4,p5,p6,p7]) rfl ⟨.inr ⟨HZ.out,As,cs,rfl⟩,HBv.out⟩
def imgT (I:List ByteArray) (Z:Int):List UInt8:=if Z=0 then repT [] (-1) 0 I.length 0 else errT 0 Z
theorem Jwv (m:Int) (T:ByteArray) (I:List ByteArray) (y:ByteArray→Bool) (w:World) (hT:T.size≤900000) (hE:Env m w) (hp:parseS T.data.toList= .inl (scI I).m) (hy:∀x∈I,(y x=true→OpenY x)∧(y x=false→OpenN x)) (hI:I.length≤1000000) (hz:I64 (skE y 0 I)):
  Calls prog 9 #[.string T] w (StrOut (imgT I (skE y 0 I)) w):=by
 have HP:=hid (Jps m T I y w hT hE hp hy);obtain⟨Z,hZ⟩:=words.nm (skE y 0 I);rw [←hZ] at HP hz ⊢;have HTe:Hid (∀w',Z≠0→Below w.heap.size w w'→Calls prog 16 #[.agg #[.int .i64 0,.int .i64 Z,.slice none 0 0,.int .i64 (-1),.int .i64 0,.slice none 0 0,.int .i64 0,.int .i64 0]] w' (StrOut (imgT I Z) w')):=hid fun w' h0 hb=>by
  unfold imgT;rw [if_neg h0];exact Jmh m 0 Z (-1) 0 0 0 [] none none 0 0 0 w' (hE.later hb) h0 (by unfold I64;omega) hz
 have HTo:Hid (∀As cs w',Z=0→Below w.heap.size w w'→Calls prog 16 #[.agg #[.int .i64 0,.int .i64 0,.slice none 0 0,.int .i64 (-1),.int .i64 0,.slice As I.length cs,.int .i64 (I.length:Int),.int .i64 0]] w' (StrOut (imgT I Z) w')):=hid fun As cs w' h0 hb=>by
  unfold imgT;rw [if_pos h0];exact Jsc m 0 (-1) 0 (I.length:Int) 0 [] none As 0 I.length cs w' (hE.later hb) (fun i r hi=>by simp at hi) (fun r hr=>by cases hr) (fun r hr=>by cases hr) (by decide) (by unfold I64;omega) (by unfold I64;omega) (by unfold I64;omega) hI
 clear hE hp hy hI hz hZ;go_enter func9,ntmps9
 go_wp2_with fail
 refine HP.out.mono ?_;rintro e w2 ⟨(⟨h0,rfl⟩ |⟨h0,As,cs,rfl⟩),hb2⟩
 ·have HT2:=hid (HTe.out w2 h0 hb2)
  have HB2:=hid hb2;clear hb2 HTe HTo HP h0;go_wp2_with fail
  refine HT2.out.mono ?_;rintro e w3 ⟨⟨r,rfl,hr⟩,hb3⟩;have HF:Hid (StrOut (imgT I Z) w (.returned (.string r)) w3):=hid ⟨⟨r,rfl,hr⟩,HB2.out.trans (hb3.mono HB2.out.size)⟩;clear hr hb3 HT2;go_wp2_with fail
  go_ret
  exact HF.out
 ·have HT2:=hid (HTo.out As cs w2 h0 hb2)
  have HB2:=hid hb2;clear hb2 HTe HTo HP h0;go_wp2_with fail
  refine HT2.out.mono ?_;rintro e w3 ⟨⟨r,rfl,hr⟩,hb3⟩;have HF:Hid (StrOut (imgT I Z) w (.returned (.string r)) w3):=hid ⟨⟨r,rfl,hr⟩,HB2.out.trans (hb3.mono HB2.out.size)⟩;clear hr hb3 HT2;go_wp2_with fail
  go_ret
  exact HF.out
end Go.Proofs.YtekekhgjobahaaaGreatDoor.rep
