import Derived.Test.YtkjpgheealfedaaGreatDoorKB
import Derived.Deep.CutRange
set_option maxHeartbeats 6400000
set_option maxRecDepth 100000
open Go.Lib (hid)
open Go.Proofs.Tryz
namespace Go.Proofs.YtkjpgheealfedaaGreatDoor.dca
open Go.RowKit words lru sha lrd shd

def root:ByteArray:=⟨#[47]⟩
def childB (d s:ByteArray):ByteArray:=if d=root then root++s else d++⟨#[47]⟩++s
theorem toList_inj {a b:ByteArray} (h:a.toList=b.toList):a=b:=by
 rw [ByteArray.toList_eq,ByteArray.toList_eq] at h;exact ByteArray.ext (Array.ext' h)
theorem Jhv {a b:ByteArray} (h:a≠b):(a.toList==b.toList)=false:=by
 rw [beq_eq_false_iff_ne];exact fun e=>h (toList_inj e)
theorem Ji0:root.toList=[47]:=by rw [ByteArray.toList_eq];rfl
theorem Jbn (d s:ByteArray):(childB d s).size≤d.size+1+s.size:=by
 unfold childB;split
 ·rw [ByteArray.size_append];show 1+s.size≤_;omega
 ·rw [ByteArray.size_append,ByteArray.size_append];show d.size+1+s.size≤_;omega
theorem Jbm (d s:ByteArray) (w:World) (h1:d.size≤1000000000) (h2:s.size≤1000000000):
  Calls prog 84 #[.string d,.string s] w fun e w'=>e= .returned (.string (childB d s))∧w=w':=by
 obtain⟨r,hr⟩:=words.nm (childB d s);rw [←hr];unfold childB at hr;have hz:(d++⟨#[47]⟩).size≤1000000001:=by rw [ByteArray.size_append];show d.size+1≤_;omega
 by_cases c:d=root
 ·subst c
  rw [if_pos rfl] at hr;have f1:(root.toList==[47])=true:=by rw [Ji0];rfl
  unfold root at f1 hr h1 hz ⊢;have HR:=hid hr.symm;clear hr;go_enter func84,ntmps84
  go_wp2
  go_ret
  exact⟨by rw [←HR.out];rfl,rfl⟩
 ·rw [if_neg c] at hr
  have f1:(d.toList==[47])=false:=by have h:=Jhv (b:=root) c;rwa [Ji0] at h
  have HR:=hid hr.symm;clear hr c;go_enter func84,ntmps84
  go_wp2
  go_ret
  exact⟨by rw [←HR.out];rfl,rfl⟩
def dirB (n:Nat):ByteArray:=match n % 4 with
 |0=>⟨#[47]⟩
 |1=>⟨#[47,97]⟩
 |2=>⟨#[47,97,47,98]⟩
 |_=>⟨#[47,97,97]⟩

def spC (p:Int×Int):List Value:=[.int .i64 p.1,.int .i64 p.2]
def Sp (w:World) (lo:Nat) (A:Option Addr) (n:Nat) (P:List (Int×Int)):Prop:=
 n=P.length∧∀i p,P[i]?=some p→∃b off cs,A=some ⟨b,off,none⟩∧lo≤b∧w.heap[b]?=some (.cells cs 33 (0,0))∧cs[off+i*2]?=some (.int .i64 p.1)∧cs[off+i*2+1]?=some (.int .i64 p.2)
theorem Sp.nil (w:World) (lo:Nat) (A:Option Addr):Sp w lo A 0 []:=⟨rfl,fun i p h=>by simp at h⟩
theorem Sp.kept {S:TypeId→Prop} {B:Nat} {w w':World} {lo:Nat} {A:Option Addr} {n:Nat} {P:List (Int×Int)} (h:Sp w lo A n P) (hk:Kept S B w w') (hS:¬S 33):Sp w' lo A n P:=
 ⟨h.1,fun i p hp=>by
   obtain⟨b,off,cs,h1,h2,h3,h4⟩:=h.2 i p hp;exact⟨b,off,cs,h1,h2,hk.blk h3 hS,h4⟩⟩
theorem Sp.later {w w':World} {lo:Nat} {A:Option Addr} {n:Nat} {P:List (Int×Int)} (h:Sp w lo A n P) (hb:Below w.heap.size w w'):Sp w' lo A n P:=h.kept (Kept.of_below hb (fun _=>False) 0) (fun hc=>hc)
theorem Sp.mono {w:World} {lo lo':Nat} {A:Option Addr} {n:Nat} {P:List (Int×Int)} (h:Sp w lo A n P) (hl:lo'≤lo):Sp w lo' A n P:=
 ⟨h.1,fun i p hp=>by
   obtain⟨b,off,cs,h1,h2,h3⟩:=h.2 i p hp;exact⟨b,off,cs,h1,Nat.le_trans hl h2,h3⟩⟩
theorem Sp.at {w:World} {lo:Nat} {A:Option Addr} {n:Nat} {P:List (Int×Int)} (h:Sp w lo A n P) {i:Nat} {p:Int×Int} (hp:P[i]?=some p):
  ∃b off,A=some ⟨b,off,none⟩∧lo≤b∧b<w.heap.size∧w.cell? ⟨b,off+i*2,none⟩=some (.int .i64 p.1)∧w.cell? ⟨b,off+i*2+1,none⟩=some (.int .i64 p.2):=by
 obtain⟨b,off,cs,h1,h2,h3,h4,h5⟩:=h.2 i p hp;exact⟨b,off,h1,h2,lt_of_some h3,(Jaa h3 _).trans h4,(Jaa h3 _).trans h5⟩
theorem Jj0 (P:List (Int×Int)):∀u∈P.flatMap spC,u.oneCell'=true:=fun u hu=>by
 obtain⟨p,_,hp⟩:=List.mem_flatMap.1 hu;simp only [spC,List.mem_cons,List.mem_nil_iff,or_false] at hp;rcases hp with rfl |rfl<;>rfl
theorem Jhb (P:List (Int×Int)):(P.flatMap spC).length=P.length*2:=by
 induction P with
 |nil=>rfl
 |cons p L ih=>rw [List.flatMap_cons,List.length_append,ih,List.length_cons];simp [spC];omega
theorem Jf9:∀{P:List (Int×Int)} {j:Nat} {u:Value},(P.flatMap spC)[j]?=some u→∃i p,P[i]?=some p∧((j=i*2∧u= .int .i64 p.1)∨(j=i*2+1∧u= .int .i64 p.2))
 |[],j,u,h=>by simp at h
 |x::P,j,u,h=>by
  rw [List.flatMap_cons] at h;rcases j with _ |_ |j
  ·exact⟨0,x,rfl,.inl ⟨rfl,by simpa [spC] using h.symm⟩⟩
  ·exact⟨0,x,rfl,.inr ⟨rfl,by simpa [spC] using h.symm⟩⟩
  ·rw [List.getElem?_append_right (by simp [spC])] at h
   obtain⟨i,p,h1,h2⟩:=Jf9 (P:=P) (j:=j) (by simpa [spC] using h);exact⟨i+1,p,by simpa using h1,h2.imp (fun⟨a,b⟩=>⟨by omega,b⟩) (fun⟨a,b⟩=>⟨by omega,b⟩)⟩
theorem Jnx:∀{P:List (Int×Int)} {i:Nat} {p:Int×Int},P[i]?=some p→(P.flatMap spC)[i*2]?=some (.int .i64 p.1)∧(P.flatMap spC)[i*2+1]?=some (.int .i64 p.2)
 |[],i,p,h=>by simp at h
 |x::P,i,p,h=>by
  rw [List.flatMap_cons];rcases i with _ |i
  ·obtain rfl:x=p:=by simpa using h
   exact⟨rfl,rfl⟩
  ·obtain⟨h1,h2⟩:=Jnx (P:=P) (i:=i) (by simpa using h)
   rw [List.getElem?_append_right (by simp [spC];omega),List.getElem?_append_right (by simp [spC];omega)];exact⟨by rw [←h1];congr 1;simp [spC];omega,by rw [←h2];congr 1;simp [spC];omega⟩
theorem Sp.of_own {w:World} {B:Nat} {A:Option Addr} {c:Nat} {P:List (Int×Int)} (h:w.ownsRow B 33 2 (.slice A P.length c) P.length (P.flatMap spC)):Sp w B A P.length P:=by
 refine⟨rfl,fun i p hp=>?_⟩;obtain⟨h1,h2⟩:=Jnx hp;have hi:i<P.length:=(List.getElem?_eq_some_iff.1 hp).1;rcases h.2 with⟨_,h0⟩ |⟨b,c',cur,hv,hB,hh,_,_,_,h4⟩
 ·omega
 ·injection hv with hv
  refine⟨b,0,cur,hv,hB,hh,?_,?_⟩
  ·rw [←h4,List.getElem?_take] at h1
   split at h1
   ·rw [←Array.getElem?_toList,Nat.zero_add];exact h1
   ·cases h1
  ·rw [←h4,List.getElem?_take] at h2
   split at h2
   ·rw [←Array.getElem?_toList,Nat.zero_add];exact h2
   ·cases h2
theorem infoSpot:(Tryz.prog.info? 33).map (fun i=>(i.zero,i.size,i.bytes))=some (some (.agg #[.int .i64 0,.int .i64 0]),2,16):=by kernel_rfl
def Spd (P:List (Int×Int)) (w:World) (e:Ending) (w':World):Prop:=(∃A c,e= .returned (.slice A P.length c)∧Sp w' w.heap.size A P.length P)∧Below w.heap.size w w'
theorem Jc4 (lo:Nat) (A:Option Addr) (c:Nat) (P:List (Int×Int)) (w:World) (hp:Sp w lo A P.length P) (hl:P.length≤1000):
  Calls prog 62 #[.slice A P.length c] w (Spd P w):=by
 obtain⟨i0,hi,hz0,hz1,hz2⟩:=Jap infoSpot;rcases A with _ |ad
 ·have hP:P=[]:=by
   rcases P with _ |⟨p,P⟩
   ·rfl
   ·obtain⟨b,off,h1,_⟩:=hp.at (i:=0) (p:=p) rfl
    cases h1
  subst hP;have heq0:=fun wx=>Lib.run_eql_slice_nil (P:=prog) wx 35 33 none 0 c 0 0 underlying35;clear hp hl hz0 hz1 hz2 hi;go_enter func62,ntmps62
  go_wp2_with fail
  go_ret
  exact⟨⟨none,0,rfl,Sp.nil _ _ _⟩,Below.refl _ _⟩
 ·have heq:=fun wx=>Lib.run_eql_slice_nil (P:=prog) wx 35 33 (some ad) P.length c 0 0 underlying35
  have hnews:Hid (∀j u,(P.flatMap spC)[j]?=some u→(w.alloc (.cells #[] 33)).cell? (ad.add j)=some u):=hid fun j u hu=>by
   obtain⟨i,p,hip,hj⟩:=Jf9 hu;obtain⟨b,off,hA,_,hB,hc1,hc2⟩:=hp.at hip;injection hA with hA;subst hA;rw [Jas];have hbl:=(Below.refl w.heap.size w).alloc (Nat.le_refl _) (.cells #[] 33);rcases hj with⟨rfl,rfl⟩ |⟨rfl,rfl⟩
   ·exact (hbl.cell (p:=⟨b,off+i*2,none⟩) hB).trans hc1
   ·rw [←Nat.add_assoc]
    exact (hbl.cell (p:=⟨b,off+i*2+1,none⟩) hB).trans hc2
  have HOne:=hid (Jj0 P);have HLen:=hid (Jhb P);clear hp;go_enter func62,ntmps62
  go_wp2_with (at_builtin;refine wpList_append_own _ rfl (.tmp 5) (.tmp 6) 35 rfl w.heap.size 33 i0 _ 2 16 underlying35 hi hz0 hz1 hz2 rfl (by omega) (.slice (some ⟨w.heap.size,0,none⟩) 0 0) 0 [] rfl (World.ownsRow_made w #[] 0 (Nat.le_refl _) (by decide) rfl) ad P.length c (P.flatMap spC) rfl HLen.out hnews.out HOne.out (by simp only [maxLen];omega) (by omega) (by simp) ?_;intro v4 w4 hown4 hgrow hnil4)
  rw [Nat.zero_add,List.nil_append] at hown4;obtain⟨A4,c4,rfl,h1,h2,_⟩:=own_facts hown4;have HO4:=hid hown4;have HB4:=hid (Jad (S:=w.heap.size) ((Below.refl w.heap.size w).alloc (Nat.le_refl _) (.cells #[] 33)) (World.ownsRow_made w #[] 0 (Nat.le_refl _) (by decide) rfl:(w.alloc (.cells #[] 33)).ownsRow w.heap.size 33 2 _ 0 []) hgrow (Nat.le_refl _) (Nat.le_refl _));clear hown4 hgrow hnil4;go_wp2_with fail
  go_ret
  exact⟨⟨A4,c4,rfl,Sp.of_own HO4.out⟩,HB4.out⟩

def moved (x:Ent) (A:Option Addr) (c:Nat):Ent:={x with da:=A,dc:=c}
def ApOut (x:Ent) (P:List (Int×Int)) (w:World) (e:Ending) (w':World):Prop:=(∃A c,e= .returned (.agg #[.int .i64 x.ep,.bool x.th,.int .i64 x.kd,.int .i64 x.lv,.int .i64 x.nd,.slice A x.dn c,.string x.tg])∧Sp w' w.heap.size A x.dn P)∧Below w.heap.size w w'
theorem Jf8 (lo:Nat) (x:Ent) (P:List (Int×Int)) (w:World) (hp:Sp w lo x.da x.dn P) (hl:P.length≤1000):
  Calls prog 91 #[.agg #[.int .i64 x.ep,.bool x.th,.int .i64 x.kd,.int .i64 x.lv,.int .i64 x.nd,.slice x.da x.dn x.dc,.string x.tg]] w (ApOut x P w):=by
 obtain⟨W1,hW1⟩:=words.nm (w.alloc (.cells #[.int .i64 x.ep,.bool x.th,.int .i64 x.kd,.int .i64 x.lv,.int .i64 x.nd,.slice x.da x.dn x.dc,.string x.tg] 75));obtain⟨W2,hW2⟩:=words.nm (W1.alloc (.cells #[.int .i64 0,.bool false,.int .i64 0,.int .i64 0,.int .i64 0,.slice none 0 0,.string ⟨#[]⟩] 75));have hb1:=words.b1 hW1;have hb2:Below W1.heap.size W1 W2:=words.b1 hW2;have hz1:W1.heap.size=w.heap.size+1:=by rw [hW1];simp
 have k1:W1.heap[w.heap.size]?=some (.cells #[.int .i64 x.ep,.bool x.th,.int .i64 x.kd,.int .i64 x.lv,.int .i64 x.nd,.slice x.da x.dn x.dc,.string x.tg] 75 (0,0)):=by rw [hW1];exact heap_alloc_new w _
 have k2:W2.heap[w.heap.size+1]?=some (.cells #[.int .i64 0,.bool false,.int .i64 0,.int .i64 0,.int .i64 0,.slice none 0 0,.string ⟨#[]⟩] 75 (0,0)):=by rw [hW2,←hz1];exact heap_alloc_new W1 _
 have k3:=(hb2.block _ (lt_of_some k1)).trans k1;have hb12:=hb1.trans (hb2.mono hb1.size);have hsp:=hp.later hb12;have HC:=hid (show Calls prog 62 #[.slice x.da x.dn x.dc] W2 (Spd P W2) from by
   have h:=hp.1;have:=Jc4 lo x.da x.dc P W2 (by rw [h] at hsp;exact hsp) hl;rw [←h] at this;exact this)
 have a0:=Jaa k3 0;have a1:=Jaa k3 1;have a2:=Jaa k3 2;have a3:=Jaa k3 3;have a4:=Jaa k3 4;have a5:=Jaa k3 5;have a6:=Jaa k3 6;have HP:=hid hp.1;have HK2:=hid k2;have HK3:=hid k3;have HB:=hid hb12;have HZ1:=hid hz1;have HW1:=hid hW1;have HW2:=hid hW2;clear hp hsp hW1 hW2 hb1 hb2 k1 k2 k3 hb12 hz1;go_enter func91,ntmps91
 go_upto_region 1 with fail
 rw [←HW1.out,←HW2.out];clear a0 a1 a2 a3 a4 a6;go_wp2_with fail
 refine HC.out.mono ?_;rintro e w3 ⟨⟨A,c',rfl,hsp3⟩,hb3⟩;rw [←HP.out] at hsp3 ⊢;have k3:=(hb3.block _ (lt_of_some HK3.out)).trans HK3.out;have k2:=(hb3.block _ (lt_of_some HK2.out)).trans HK2.out;have b5:=Jaa k3 5;have g5:=Jab k3 5;obtain⟨W4,hW4⟩:=words.nm (w3.setCell ⟨w.heap.size,5,none⟩ (.slice A x.dn c'));have k3':W4.heap[w.heap.size]?=some (.cells #[.int .i64 x.ep,.bool x.th,.int .i64 x.kd,.int .i64 x.lv,.int .i64 x.nd,.slice A x.dn c',.string x.tg] 75 (0,0)):=by
  rw [hW4];exact heap_setCell_same w3 w.heap.size 5 _ _ _ k3
 have k2':W4.heap[w.heap.size+1]?=some (.cells #[.int .i64 0,.bool false,.int .i64 0,.int .i64 0,.int .i64 0,.slice none 0 0,.string ⟨#[]⟩] 75 (0,0)):=by
  rw [hW4,Below.heap_setCell _ _ _ _ (show w.heap.size+1≠w.heap.size by omega)];exact k2
 have hb4:Below w.heap.size w W4:=by
  rw [hW4];exact (HB.out.trans (hb3.mono HB.out.size)).setCell (Nat.le_refl _) _
 have hk34:Kept (fun t=>t=75) 0 w3 W4:=by
  rw [hW4];exact (Kept.refl (fun t=>t=75) _ _).setCell (p:=⟨w.heap.size,5,none⟩) (Nat.zero_le _) ⟨_,_,_,k3,rfl⟩ _
 have hsp4:=(hsp3.kept hk34 (by decide)).mono (show w.heap.size≤W2.heap.size from HB.out.size);have HB4:=hid hb4;have HS4:=hid hsp4;have HW4:=hid hW4;have HK4:=hid k2';have HK5:=hid k3';have q0:=Jaa k3' 0;have z0:=Jaa k2' 0;have fz0:=Jab k2' 0;have q1:=Jaa k3' 1;have z1:=Jaa k2' 1;have fz1:=Jab k2' 1;have q2:=Jaa k3' 2;have z2:=Jaa k2' 2;have fz2:=Jab k2' 2;have q3:=Jaa k3' 3;have z3:=Jaa k2' 3;have fz3:=Jab k2' 3;have q4:=Jaa k3' 4;have z4:=Jaa k2' 4;have fz4:=Jab k2' 4;have q5:=Jaa k3' 5;have z5:=Jaa k2' 5;have fz5:=Jab k2' 5;have q6:=Jaa k3' 6;have z6:=Jaa k2' 6;have fz6:=Jab k2' 6;clear k3 k2 k3' k2' hb3 hsp3 hb4 hk34 hsp4 hW4 a5;go_upto_region 2 with fail
 rw [←HW4.out];clear b5 g5;go_wp2_with fail
 obtain⟨W9,hW9⟩:=words.nm ((((((((W4.setCell ⟨w.heap.size+1,0,none⟩ (.int .i64 x.ep)).setCell ⟨w.heap.size+1,1,none⟩ (.bool x.th)).setCell ⟨w.heap.size+1,2,none⟩ (.int .i64 x.kd)).setCell ⟨w.heap.size+1,3,none⟩ (.int .i64 x.lv)).setCell ⟨w.heap.size+1,4,none⟩ (.int .i64 x.nd)).setCell ⟨w.heap.size+1,5,none⟩ (.slice A x.dn c')).setCell ⟨w.heap.size+1,6,none⟩ (.string x.tg)));have h9:W9=setsV W4 (w.heap.size+1) 0 [.int .i64 x.ep,.bool x.th,.int .i64 x.kd,.int .i64 x.lv,.int .i64 x.nd,.slice A x.dn c',.string x.tg]:=hW9;rw [←hW9];have hbk9:W9.heap[w.heap.size+1]?=some (.cells #[.int .i64 x.ep,.bool x.th,.int .i64 x.kd,.int .i64 x.lv,.int .i64 x.nd,.slice A x.dn c',.string x.tg] 75 (0,0)):=by rw [h9];exact Jak HK4.out rfl
 have ht9:Tn (fun k=>k=w.heap.size+1) W4 W9:=by rw [h9];exact Jan (S:=fun k=>k=w.heap.size+1) _ (.inr rfl) _ _ _ (Tn.refl _ _)
 have hk49:Kept (fun t=>t=75) 0 W4 W9:=ht9.kept fun k hk=>by subst hk;exact⟨Nat.zero_le _,_,_,_,HK4.out,rfl⟩
 have hb9:Below w.heap.size w W9:=HB4.out.trans (ht9.below (fun k hk=>by omega) (HB4.out.size));have HF:Hid (ApOut x P w (.returned (.agg #[.int .i64 x.ep,.bool x.th,.int .i64 x.kd,.int .i64 x.lv,.int .i64 x.nd,.slice A x.dn c',.string x.tg])) W9):=hid ⟨⟨A,c',rfl,HS4.out.kept hk49 (by decide)⟩,hb9⟩;have y0:=Jaa hbk9 0;have y1:=Jaa hbk9 1;have y2:=Jaa hbk9 2;have y3:=Jaa hbk9 3;have y4:=Jaa hbk9 4;have y5:=Jaa hbk9 5;have y6:=Jaa hbk9 6;clear hk49 ht9 hb9 hbk9 h9 hW9;exact bodyPost_ret (v:= .agg #[.int .i64 x.ep,.bool x.th,.int .i64 x.kd,.int .i64 x.lv,.int .i64 x.nd,.slice A x.dn c',.string x.tg]) (by simp [results,results91,go_sem,y0,y1,y2,y3,y4,y5,y6]) rfl HF.out

theorem below_drewN (w:World) (n:Nat):Below w.heap.size w (w.drewN n):=⟨rfl,rfl,rfl,Nat.le_refl _,fun _ _=>rfl⟩
def gsOf (C:List Cc):List Nat:=C.map (·.g)
def nsOf (C:List Cc):List Nat:=C.map (·.L.length)
theorem Jjt (gs:List Nat) (r:Nat):gsOf (news gs r)=gs:=by
 unfold gsOf news;rw [List.map_map];exact List.map_id' gs
theorem Joz {C:List Cc} {i:Nat} {c:Cc} (h:C[i]?=some c) (bo:Option Nat) (L:List (ByteArray×Ent)):gsOf (C.set i ⟨c.g,bo,c.r,L⟩)=gsOf C:=by
 unfold gsOf;rw [List.map_set];apply List.ext_getElem?;intro j;rw [List.getElem?_set];split
 ·rename_i e
  subst e;split
  ·rw [List.getElem?_map,h];rfl
  ·rename_i hlt
   rw [List.getElem?_eq_none (by omega)]
 ·rfl
theorem Jfy {C:List Cc} {i:Nat} {c:Cc} (h:C[i]?=some c):(gsOf C)[i]?=some c.g:=by unfold gsOf;rw [List.getElem?_map,h];rfl
theorem gs_len (C:List Cc):(gsOf C).length=C.length:=by unfold gsOf;rw [List.length_map]
structure Dc (w:World) (B q h:Nat) (C:List Cc) (x y:Int):Prop where
 lo:B≤q
 blk:w.heap[q]?=some (.cells #[ptrC h,.int .i64 x,.int .i64 y] 117 (0,0))
 shd:Shd w B h (gsOf C)
 fam:Fam w B C
def DS (t:TypeId):Prop:=t=222∨t=253∨t=117
theorem Dc.kept {S:TypeId→Prop} {B':Nat} {w w':World} {B q h:Nat} {C:List Cc} {x y:Int} (d:Dc w B q h C x y) (hk:Kept S B' w w') (h0:¬S 117) (h1:¬S 169) (h2:¬S 170) (h3:¬S 222) (h4:¬S 253):Dc w' B q h C x y:=
 ⟨d.lo,hk.blk d.blk h0,d.shd.kept hk h1 h2,d.fam.kept hk h3 h4⟩
theorem Dc.later {w w':World} {B q h:Nat} {C:List Cc} {x y:Int} (d:Dc w B q h C x y) (hb:Below w.heap.size w w'):Dc w' B q h C x y:=
 d.kept (Kept.of_below hb (fun _=>False) 0) (fun hc=>hc) (fun hc=>hc) (fun hc=>hc) (fun hc=>hc) (fun hc=>hc)
theorem keptWider {S S':TypeId→Prop} {B:Nat} {w w':World} (h:Kept S B w w') (hs:∀t,S t→S' t):Kept S' B w w':=
 ⟨h.os,h.tape,h.output,h.size,fun k hk hc=>h.block k hk (hc.imp_right fun hc cs t f he hS=>hc cs t f he (hs t hS))⟩
theorem LS.ds {t:TypeId} (h:LS t):DS t:=h.imp_right .inl
theorem Dc.left {w w':World} {B q h i:Nat} {C:List Cc} {c:Cc} {x y:Int} {L':List (ByteArray×Ent)} (d:Dc w B q h C x y) (hi:C[i]?=some c) (hl:lrd.Left w B c.g c.r c.bo L' w') (hok:Ok L' c.r):
  (∃bo',Dc w' B q h (C.set i ⟨c.g,bo',c.r,L'⟩) x y)∧Kept LS B w w':=by
 have hk:=d.fam.left_kept hi hl;obtain⟨bo',hf⟩:=d.fam.left hi hl hok;refine⟨⟨bo',d.lo,hk.blk d.blk (by unfold LS;decide),?_,hf⟩,hk⟩;rw [Joz hi];exact d.shd.kept hk (by unfold LS;decide) (by unfold LS;decide)
theorem Dc.count {w:World} {B q h:Nat} {C:List Cc} {x y:Int} (d:Dc w B q h C x y) (j:Nat) (u:Value) {x' y':Int} (hj:(#[ptrC h,.int .i64 x,.int .i64 y]:Array Value).setIfInBounds j u=#[ptrC h,.int .i64 x',.int .i64 y']):
  Dc (w.setCell ⟨q,j,none⟩ u) B q h C x' y'∧Kept (fun t=>t=117) B w (w.setCell ⟨q,j,none⟩ u):=by
 have hk:Kept (fun t=>t=117) B w (w.setCell ⟨q,j,none⟩ u):=(Kept.refl (fun t=>t=117) _ _).setCell (p:=⟨q,j,none⟩) d.lo ⟨_,_,_,d.blk,rfl⟩ u;refine⟨⟨d.lo,?_,d.shd.kept hk (by decide) (by decide),d.fam.kept hk (by decide) (by decide)⟩,hk⟩;rw [←hj];exact heap_setCell_same w q j _ _ u d.blk

def NewD (w:World) (n r:Nat) (e:Ending) (w':World):Prop:=∃(q h:Nat) (gs:List Nat),e= .returned (.pointer (some ⟨q,0,none⟩))∧gs.length=n∧Dc w' w.heap.size q h (news gs r) 0 0∧Below w.heap.size w w'
theorem dnew_any (n r:Nat) (many room:Int) (w:World) (hn:(n:Int)=min (max many 1) 256) (hr:(r:Int)=max room 1):
  Calls prog 33 #[.int .i64 many,.int .i64 room] w (NewD w n r):=by
 have HC:=hid (snew_any n r many room w hn hr);clear hn hr;go_enter func33,ntmps33
 go_wp2_with fail
 refine HC.out.mono ?_;rintro e w1 ⟨rfl,gs,hgl,hs,hf,hb⟩;obtain⟨W2,hW2⟩:=words.nm (w1.alloc (.cells #[ptrC w.heap.size,.int .i64 0,.int .i64 0] 117));have hb2:Below w1.heap.size w1 W2:=words.b1 hW2;have hk2:W2.heap[w1.heap.size]?=some (.cells #[ptrC w.heap.size,.int .i64 0,.int .i64 0] 117 (0,0)):=by rw [hW2];exact heap_alloc_new w1 _
 have HE:Hid (NewD w n r (.returned (.pointer (some ⟨w1.heap.size,0,none⟩))) W2):=hid ⟨_,_,gs,rfl,hgl,⟨hb.size,hk2,by rw [Jjt];exact hs.later hb2,hf.later hb2⟩,hb.trans (hb2.mono hb.size)⟩;rw [hW2] at HE;unfold ptrC at HE;clear hgl hs hf hb hb2 hk2 hW2;go_wp2_with fail
 go_ret
 exact HE.out
theorem counts_any (B q h:Nat) (C:List Cc) (x y:Int) (w:World) (d:Dc w B q h C x y):
  Calls prog 40 #[.pointer (some ⟨q,0,none⟩)] w fun e w'=>e= .returned (.tuple #[.int .i64 x,.int .i64 y])∧Below w.heap.size w w':=by
 have c1:=Jaa d.blk 1;have c2:=Jaa d.blk 2;clear d;go_enter func40,ntmps40
 go_wp2_with fail
 go_quiet (fail)
 go_wp2_with fail
 go_ret2
 exact⟨rfl,below_drewN _ _⟩
theorem dshard_any (B q h:Nat) (C:List Cc) (x y:Int) (dir s:ByteArray) (w:World) (d:Dc w B q h C x y) (h1:0<C.length) (h2:C.length≤256) (hd:dir.size≤1000000) (hs:s.size≤1000000):
  Calls prog 44 #[.pointer (some ⟨q,0,none⟩),.string dir,.string s] w fun e w'=>e= .returned (.int .i64 (ofF (childB dir s) C.length:Int))∧Below w.heap.size w w':=by
 have c0:=Jaa d.blk 0;unfold ptrC at c0;have HCh:=hid (fun w=>Jbm dir s w (by omega) (by omega));obtain⟨k,hk⟩:=words.nm (childB dir s);have hks:k.size≤9223372036854775807:=by have:=Jbn dir s;rw [hk];omega
 rw [←hk] at HCh ⊢;have HOf:Hid (∀m,Calls prog 83 #[.pointer (some ⟨h,0,none⟩),.string k] (w.drewN m) fun e w'=>e= .returned (.int .i64 (ofF k C.length:Int))∧∃n,w'=(w.drewN m).drewN n):=hid fun m=>by
  have hsh:Shd (w.drewN m) B h (gsOf C):=d.shd;have:=of_any B h (gsOf C) k (w.drewN m) hsh (by rw [gs_len];exact h1) (by rw [gs_len];exact h2) hks;rw [gs_len] at this;exact this
 clear d hk hks;go_enter func44,ntmps44
 go_wp2_with fail
 go_quiet ((first
   |(go_at_call 84;exact Calls.quiet_of_same ((HCh.out _).mono fun e w' ⟨h1,h2⟩=>⟨h1,h2.symm⟩))
   |(go_at_call 83;exact Calls.quiet_of (HOf.out _))))
 go_wp2_with fail
 go_ret
 exact⟨rfl,below_drewN _ _⟩

structure Mid (W1:World) (q B h i:Nat) (c:Cc) (x y:Int) (k:ByteArray) (C:List Cc) (xe:Ent) (β:Nat) (wx:World):Prop where
 blk:wx.heap[β]?=some (.cells #[.int .i64 xe.ep,.bool xe.th,.int .i64 xe.kd,.int .i64 xe.lv,.int .i64 xe.nd,.slice xe.da xe.dn xe.dc,.string xe.tg] 75 (0,0))
 hi:W1.heap.size≤β
 dc:∃bo',Dc wx B q h (C.set i ⟨c.g,bo',c.r,getL c.L k⟩) x y
 kept:Kept LS B W1 wx
 q0:wx.cell? ⟨q,0,none⟩=some (.pointer (some ⟨h,0,none⟩))
theorem Mid.of {W1 u:World} {q B h i:Nat} {c:Cc} {x y:Int} {k:ByteArray} {C:List Cc} {β:Nat} (xe:Ent) (du:∃bo',Dc u B q h (C.set i ⟨c.g,bo',c.r,getL c.L k⟩) x y) (ku:Kept LS B W1 u)
  (hu:u.heap[β]?=some (.cells #[.int .i64 0,.bool false,.int .i64 0,.int .i64 0,.int .i64 0,.slice none 0 0,.string ⟨#[]⟩] 75 (0,0))) (hβ:W1.heap.size≤β):Mid W1 q B h i c x y k C xe β (setsV u β 0 [.int .i64 xe.ep,.bool xe.th,.int .i64 xe.kd,.int .i64 xe.lv,.int .i64 xe.nd,.slice xe.da xe.dn xe.dc,.string xe.tg]):=by
 have h4:Tn (fun k=>k=β) u (setsV u β 0 [.int .i64 xe.ep,.bool xe.th,.int .i64 xe.kd,.int .i64 xe.lv,.int .i64 xe.nd,.slice xe.da xe.dn xe.dc,.string xe.tg]):=Jan (S:=fun k=>k=β) _ (.inr rfl) _ _ _ (Tn.refl _ _);have hk4:Kept (fun t=>t=75) 0 u (setsV u β 0 [.int .i64 xe.ep,.bool xe.th,.int .i64 xe.kd,.int .i64 xe.lv,.int .i64 xe.nd,.slice xe.da xe.dn xe.dc,.string xe.tg]):=h4.kept fun k hk=>by subst hk;exact⟨Nat.zero_le _,_,_,_,hu,rfl⟩
 obtain⟨bo',d⟩:=du;have d4:=d.kept hk4 (by decide) (by decide) (by decide) (by decide) (by decide);exact⟨Jak hu rfl,hβ,⟨bo',d4⟩,⟨h4.os.trans ku.os,h4.tape.trans ku.tape,h4.output.trans ku.output,Nat.le_trans ku.size h4.size,fun j hj hc=>(h4.block j (Nat.lt_of_lt_of_le hj ku.size) (by omega)).trans (ku.block j hj hc)⟩,Jaa d4.blk 0⟩
theorem Dc.got {W1 V w3:World} {q B h i:Nat} {c:Cc} {x y:Int} {k:ByteArray} {C:List Cc} (d:Dc W1 B q h C x y) (hi:C[i]?=some c) (hV:Below W1.heap.size W1 V) (hl:lrd.Left V B c.g c.r c.bo (getL c.L k) w3):
  (∃bo',Dc w3 B q h (C.set i ⟨c.g,bo',c.r,getL c.L k⟩) x y)∧Kept LS B W1 w3:=by
 obtain⟨h1,h2⟩:=(d.later hV).left hi hl ((d.fam.ok i c hi).get k);exact⟨h1,(Kept.of_below hV LS B).trans h2⟩
theorem look_no (B q h i:Nat) (c:Cc) (C:List Cc) (x y:Int) (epoch:Int) (dir s k:ByteArray) (w:World) (d:Dc w B q h C x y) (hB:B≤w.heap.size) (hk:k=childB dir s) (h1:0<C.length) (h2:C.length≤256) (hki:i=ofF k C.length) (hi:C[i]?=some c) (hlen:c.L.length≤1000) (hd:dir.size≤1000000) (hs:s.size≤1000000) (hy:0≤y∧y≤1000000)
  (hno:lrd.gotB c.L k=false∨(lrd.gotI c.L k).ep≠epoch):
  Calls prog 50 #[.pointer (some ⟨q,0,none⟩),.int .i64 epoch,.string dir,.string s] w fun e w'=>e= .returned (.tuple #[.agg #[.int .i64 0,.bool false,.int .i64 0,.int .i64 0,.int .i64 0,.slice none 0 0,.string ⟨#[]⟩],.bool false])∧(∃bo',Dc w' B q h (C.set i ⟨c.g,bo',c.r,getL c.L k⟩) x (y+1))∧Kept DS B w w':=by
 obtain⟨xe,hxe⟩:=words.nm (lrd.gotI c.L k);obtain⟨gb,hgb⟩:=words.nm (lrd.gotB c.L k);rw [←hxe,←hgb] at hno;obtain⟨W1,hW1⟩:=words.nm (w.alloc (.cells #[.int .i64 0,.bool false,.int .i64 0,.int .i64 0,.int .i64 0,.slice none 0 0,.string ⟨#[]⟩] 75));have hb1:=words.b1 hW1;have hz1:W1.heap[w.heap.size]?=some (.cells #[.int .i64 0,.bool false,.int .i64 0,.int .i64 0,.int .i64 0,.slice none 0 0,.string ⟨#[]⟩] 75 (0,0)):=by rw [hW1];exact heap_alloc_new w _
 have d1:=d.later hb1;have HCh:=hid (fun w=>Jbm dir s w (by omega) (by omega));rw [←hk] at HCh;have hks:k.size≤9223372036854775807:=by have:=Jbn dir s;rw [hk];omega
 have HG:Hid (∀V:World,Below W1.heap.size W1 V→Calls prog 90 #[.pointer (some ⟨h,0,none⟩),.string k] V fun e w'=>e= .returned (.tuple #[.agg #[.int .i64 xe.ep,.bool xe.th,.int .i64 xe.kd,.int .i64 xe.lv,.int .i64 xe.nd,.slice xe.da xe.dn xe.dc,.string xe.tg],.bool gb])∧lrd.Left V B c.g c.r c.bo (getL c.L k) w'):=hid fun V hV=>by
  have dV:=d1.later hV;have:=Jbj B h c.g (gsOf C) c.bo c.r c.L k V dV.shd (by rw [gs_len];exact h1) (by rw [gs_len];exact h2) hks (by rw [gs_len,←hki];exact Jfy hi) (dV.fam.lru i c hi) (dV.fam.ok i c hi) hlen;unfold lrd.Got at this;rw [←hxe,←hgb] at this;exact this
 have HS:Hid (∀V:World,Below W1.heap.size W1 V→V.cell? ⟨q,0,none⟩=some (.pointer (some ⟨h,0,none⟩))):=hid fun V hV=>Jaa (d1.later hV).blk 0;have HAft:Hid (∀V w3:World,Below W1.heap.size W1 V→lrd.Left V B c.g c.r c.bo (getL c.L k) w3→w3.cell? ⟨q,0,none⟩=some (.pointer (some ⟨h,0,none⟩))):=hid fun V w3 hV hl=>by
  obtain⟨⟨_,h3⟩,_⟩:=d1.got hi hV hl;exact Jaa h3.blk 0
 have HBlk:Hid (∀(V w3:World) (β β':Nat),Below W1.heap.size W1 V→lrd.Left V B c.g c.r c.bo (getL c.L k) w3→V.heap[β]?=some (.cells #[.int .i64 0,.bool false,.int .i64 0,.int .i64 0,.int .i64 0,.slice none 0 0,.string ⟨#[]⟩] 75 (0,0))→W1.heap.size≤β'→w3.heap[β]?=some (.cells #[.int .i64 0,.bool false,.int .i64 0,.int .i64 0,.int .i64 0,.slice none 0 0,.string ⟨#[]⟩] 75 (0,0))):=hid fun V w3 β β' hV hl hb _=>((d1.later hV).left hi hl ((d1.fam.ok i c hi).get k)).2.blk hb (by unfold LS;decide);have HEarly:Hid (∀(V w3:World) (β:Nat),Below W1.heap.size W1 V→lrd.Left V B c.g c.r c.bo (getL c.L k) w3→V.heap[β]?=some (.cells #[.int .i64 0,.bool false,.int .i64 0,.int .i64 0,.int .i64 0,.slice none 0 0,.string ⟨#[]⟩] 75 (0,0))→W1.heap.size≤β→Mid W1 q B h i c x y k C xe β (setsV w3 β 0 [.int .i64 xe.ep,.bool xe.th,.int .i64 xe.kd,.int .i64 xe.lv,.int .i64 xe.nd,.slice xe.da xe.dn xe.dc,.string xe.tg])):=hid fun V w3 β hV hl hb hβ=>by
  obtain⟨h3,h4⟩:=d1.got hi hV hl;exact Mid.of xe h3 h4 (((d1.later hV).left hi hl ((d1.fam.ok i c hi).get k)).2.blk hb (by unfold LS;decide)) hβ
 have HLate:Hid (∀(V w3 w4:World) (β:Nat),Below W1.heap.size W1 V→lrd.Left V B c.g c.r c.bo (getL c.L k) w3→Below w3.heap.size w3 w4→w4.heap[β]?=some (.cells #[.int .i64 0,.bool false,.int .i64 0,.int .i64 0,.int .i64 0,.slice none 0 0,.string ⟨#[]⟩] 75 (0,0))→w3.heap.size≤β→Mid W1 q B h i c x y k C xe β (setsV w4 β 0 [.int .i64 xe.ep,.bool xe.th,.int .i64 xe.kd,.int .i64 xe.lv,.int .i64 xe.nd,.slice xe.da xe.dn xe.dc,.string xe.tg])):=hid fun V w3 w4 β hV hl hb hz hβ=>by
  obtain⟨⟨bo',h3⟩,h4⟩:=d1.got hi hV hl;exact Mid.of xe ⟨bo',h3.later hb⟩ (h4.trans (Kept.of_below hb LS B)) hz (Nat.le_trans (Nat.le_trans hV.size hl.tn.size) hβ)
 have HZ1:=hid hz1;have HB1:=hid hb1;have HBw:Hid (B≤w.heap.size):=hid hB;have HW1:=hid hW1;clear hz1 hb1 hW1 hk hki hd hs hks hxe hgb d d1 hi hlen h1 h2 hB;go_enter func50,ntmps50
 go_upto_region 1 with fail
 rw [←HW1.out];go_cut [10,11] from 12 to 22 (fun v vb wx=>∃β:Nat,v= .pointer (some ⟨β,0,none⟩)∧vb= .bool gb∧Hid (Mid W1 q B h i c x y k C xe β wx))
 case first=>
  obtain⟨V,hV⟩:=words.nm (World.drew W1);have HBV:=hid (show Below W1.heap.size W1 V by rw [hV];exact (Below.refl _ _).drew);refine wp_region_held_drew (S:=fun w'=>w'.cell? ⟨q,0,none⟩=some (.pointer (some ⟨h,0,none⟩))) (by kernel_rfl) (by rw [←hV];exact HS.out _ HBV.out) (fun hHeld=>?_);rw [←hV] at hHeld ⊢;clear hV;refine words.tk 0 13 (v:=?_) ?_ ?_
  rotate_left 1
  ·intro _ h;(try dsimp only at h);go_simp;(try with_reducible rfl)
  try simp only [words.pt]
  refine words.tk 1 14 (v:=?_) ?_ ?_
  rotate_left 1
  ·intro _ h;(try dsimp only at h);go_simp;(try with_reducible rfl)
  try simp only [words.pt]
  refine words.tk 2 15 (v:=?_) ?_ ?_
  rotate_left 1
  ·intro _ h;(try dsimp only at h);go_simp;(try with_reducible rfl)
  try simp only [words.pt]
  refine words.tk 3 16 (v:=?_) ?_ ?_
  rotate_left 1
  ·intro _ h;(try dsimp only at h);go_simp;(try with_reducible rfl)
  try simp only [words.pt]
  refine words.tk 4 17 (v:=?_) ?_ ?_
  rotate_left 1
  ·intro _ h;(try dsimp only at h);go_simp;(try with_reducible rfl)
  try simp only [words.pt]
  refine words.tk 5 18 (v:=?_) ?_ ?_
  rotate_left 1
  ·intro _ h;(try dsimp only at h);go_simp;(try with_reducible rfl)
  try simp only [words.pt]
  refine wpAnyH_ready (rs:=[6,11]) (by kernel_rfl) (by simp) ?_;refine AllReadyH.cons rfl (fun K hK=>?_) (AllReadyH.cons rfl (fun K hK=>?_) AllReadyH.nil)
  ·skip
   go_simp
   go_at_call 84
   refine (HCh.out _).mono ?_;rintro en vch ⟨rfl,rfl⟩;clear hHeld;refine hK.out _ _ (HS.out _ HBV.out) (fun hHeld=>?_);clear hK;try simp only [words.pt]
   refine wpAnyH_ready (rs:=[7,11]) (by kernel_rfl) (by simp) ?_;refine AllReadyH.cons rfl (fun K hK=>?_) (AllReadyH.cons rfl (fun K hK=>?_) AllReadyH.nil)
   ·skip
    go_simp
    go_at_call 90
    refine (HG.out _ HBV.out).mono ?_;rintro en v1 ⟨rfl,hlv1⟩;have HLv1:=hid hlv1;have hqv1:=HAft.out _ _ HBV.out hlv1;clear hlv1;clear hHeld;refine hK.out _ _ (hqv1) (fun hHeld=>?_);clear hK;try simp only [words.pt]
    refine words.tk 8 12 (v:=?_) ?_ ?_
    rotate_left 1
    ·intro _ h;(try dsimp only at h);go_simp;(try with_reducible rfl)
    try simp only [words.pt]
    refine words.tk 9 21 (v:=?_) ?_ ?_
    rotate_left 1
    ·intro _ h;(try dsimp only at h);go_simp;(try with_reducible rfl)
    try simp only [words.pt]
    refine words.tk 10 22 (v:=?_) ?_ ?_
    rotate_left 1
    ·intro _ h;(try dsimp only at h);go_simp;(try with_reducible rfl)
    try simp only [words.pt]
    refine wpAnyH_ready (rs:=[11]) (by kernel_rfl) (by simp) (.cons rfl (fun K hK=>?_) .nil);obtain⟨v2,hv2⟩:=words.nm (World.alloc v1 (.cells #[.int .i64 0,.bool false,.int .i64 0,.int .i64 0,.int .i64 0,.slice none 0 0,.string ⟨#[]⟩] 75));have hxv2:Below (World.heap v1).size v1 v2:=words.b1 hv2;have HNv2:=hid (show v2.heap[(World.heap v1).size]?=some (.cells #[.int .i64 0,.bool false,.int .i64 0,.int .i64 0,.int .i64 0,.slice none 0 0,.string ⟨#[]⟩] 75 (0,0)) by rw [hv2];exact heap_alloc_new v1 _);have hqv2:=(hxv2.cell (p:=⟨q,0,none⟩) (World.block_lt_of_cell? _ _ hqv1)).trans hqv1;have HXv2:=hid hxv2;go_simp
    rw [←hv2];clear hv2 hxv2;clear hHeld;refine hK.out _ _ (hqv2) (fun hHeld=>?_);clear hK;try simp only [words.pt]
    refine wpAnyH_ready (rs:=[12]) (by kernel_rfl) (by simp) (.cons rfl (fun K hK=>?_) .nil);have hz:=HNv2.out;have z0:=Jaa hz 0;have fz0:=Jab hz 0;have z1:=Jaa hz 1;have fz1:=Jab hz 1;have z2:=Jaa hz 2;have fz2:=Jab hz 2;have z3:=Jaa hz 3;have fz3:=Jab hz 3;have z4:=Jaa hz 4;have fz4:=Jab hz 4;have z5:=Jaa hz 5;have fz5:=Jab hz 5;have z6:=Jaa hz 6;have fz6:=Jab hz 6;obtain⟨v3,hv3⟩:=words.nm ((((((((v2.setCell ⟨(World.heap v1).size,0,none⟩ (.int .i64 xe.ep)).setCell ⟨(World.heap v1).size,1,none⟩ (.bool xe.th)).setCell ⟨(World.heap v1).size,2,none⟩ (.int .i64 xe.kd)).setCell ⟨(World.heap v1).size,3,none⟩ (.int .i64 xe.lv)).setCell ⟨(World.heap v1).size,4,none⟩ (.int .i64 xe.nd)).setCell ⟨(World.heap v1).size,5,none⟩ (.slice xe.da xe.dn xe.dc)).setCell ⟨(World.heap v1).size,6,none⟩ (.string xe.tg)));have h9:v3=setsV v2 (World.heap v1).size 0 [.int .i64 xe.ep,.bool xe.th,.int .i64 xe.kd,.int .i64 xe.lv,.int .i64 xe.nd,.slice xe.da xe.dn xe.dc,.string xe.tg]:=hv3;have HM:Hid (Mid W1 q B h i c x y k C xe (World.heap v1).size v3):=hid (by rw [h9];exact HLate.out _ _ _ _ HBV.out HLv1.out HXv2.out HNv2.out (Nat.le_refl _));have hqv3:=HM.out.q0;go_simp
    rw [←hv3];clear hv3 h9 hz z0 fz0 z1 fz1 z2 fz2 z3 fz3 z4 fz4 z5 fz5 z6 fz6;clear hHeld;refine hK.out _ _ (hqv3) (fun hHeld=>?_);clear hK;try simp only [words.pt]
    refine words.tk 13 11 (v:=?_) ?_ ?_
    rotate_left 1
    ·intro _ h;(try dsimp only at h);go_simp;(try with_reducible rfl)
    try simp only [words.pt]
    refine wpAnyH_done (by kernel_rfl) ?_ _;clear hHeld;go_wp2_with fail
    go_meet
    case rel=>exact⟨_,rfl,rfl,HM⟩
   ·skip
    obtain⟨v1,hv1⟩:=words.nm (World.alloc V (.cells #[.int .i64 0,.bool false,.int .i64 0,.int .i64 0,.int .i64 0,.slice none 0 0,.string ⟨#[]⟩] 75));have hxv1:Below (World.heap V).size V v1:=words.b1 hv1;have HNv1:=hid (show v1.heap[(World.heap V).size]?=some (.cells #[.int .i64 0,.bool false,.int .i64 0,.int .i64 0,.int .i64 0,.slice none 0 0,.string ⟨#[]⟩] 75 (0,0)) by rw [hv1];exact heap_alloc_new V _);have HBv1:=hid (HBV.out.trans (hxv1.mono HBV.out.size));go_simp
    rw [←hv1];clear hv1 hxv1;clear hHeld;refine hK.out _ _ (HS.out _ HBv1.out) (fun hHeld=>?_);clear hK;try simp only [words.pt]
    refine wpAnyH_ready (rs:=[7]) (by kernel_rfl) (by simp) (.cons rfl (fun K hK=>?_) .nil);go_simp
    go_at_call 90
    refine (HG.out _ HBv1.out).mono ?_;rintro en v2 ⟨rfl,hlv2⟩;have HLv2:=hid hlv2;have hqv2:=HAft.out _ _ HBv1.out hlv2;clear hlv2;clear hHeld;refine hK.out _ _ (hqv2) (fun hHeld=>?_);clear hK;try simp only [words.pt]
    refine words.tk 8 12 (v:=?_) ?_ ?_
    rotate_left 1
    ·intro _ h;(try dsimp only at h);go_simp;(try with_reducible rfl)
    try simp only [words.pt]
    refine words.tk 9 21 (v:=?_) ?_ ?_
    rotate_left 1
    ·intro _ h;(try dsimp only at h);go_simp;(try with_reducible rfl)
    try simp only [words.pt]
    refine words.tk 10 22 (v:=?_) ?_ ?_
    rotate_left 1
    ·intro _ h;(try dsimp only at h);go_simp;(try with_reducible rfl)
    try simp only [words.pt]
    refine wpAnyH_ready (rs:=[12]) (by kernel_rfl) (by simp) (.cons rfl (fun K hK=>?_) .nil);have hz:=HBlk.out _ _ _ _ HBv1.out HLv2.out HNv1.out HBV.out.size;have z0:=Jaa hz 0;have fz0:=Jab hz 0;have z1:=Jaa hz 1;have fz1:=Jab hz 1;have z2:=Jaa hz 2;have fz2:=Jab hz 2;have z3:=Jaa hz 3;have fz3:=Jab hz 3;have z4:=Jaa hz 4;have fz4:=Jab hz 4;have z5:=Jaa hz 5;have fz5:=Jab hz 5;have z6:=Jaa hz 6;have fz6:=Jab hz 6;obtain⟨v3,hv3⟩:=words.nm ((((((((v2.setCell ⟨(World.heap V).size,0,none⟩ (.int .i64 xe.ep)).setCell ⟨(World.heap V).size,1,none⟩ (.bool xe.th)).setCell ⟨(World.heap V).size,2,none⟩ (.int .i64 xe.kd)).setCell ⟨(World.heap V).size,3,none⟩ (.int .i64 xe.lv)).setCell ⟨(World.heap V).size,4,none⟩ (.int .i64 xe.nd)).setCell ⟨(World.heap V).size,5,none⟩ (.slice xe.da xe.dn xe.dc)).setCell ⟨(World.heap V).size,6,none⟩ (.string xe.tg)));have h9:v3=setsV v2 (World.heap V).size 0 [.int .i64 xe.ep,.bool xe.th,.int .i64 xe.kd,.int .i64 xe.lv,.int .i64 xe.nd,.slice xe.da xe.dn xe.dc,.string xe.tg]:=hv3;have HM:Hid (Mid W1 q B h i c x y k C xe (World.heap V).size v3):=hid (by rw [h9];exact HEarly.out _ _ _ HBv1.out HLv2.out HNv1.out HBV.out.size);have hqv3:=HM.out.q0;go_simp
    rw [←hv3];clear hv3 h9 hz z0 fz0 z1 fz1 z2 fz2 z3 fz3 z4 fz4 z5 fz5 z6 fz6;clear hHeld;refine hK.out _ _ (hqv3) (fun hHeld=>?_);clear hK;try simp only [words.pt]
    refine words.tk 13 11 (v:=?_) ?_ ?_
    rotate_left 1
    ·intro _ h;(try dsimp only at h);go_simp;(try with_reducible rfl)
    try simp only [words.pt]
    refine wpAnyH_done (by kernel_rfl) ?_ _;clear hHeld;go_wp2_with fail
    go_meet
    case rel=>exact⟨_,rfl,rfl,HM⟩
  ·skip
   obtain⟨v1,hv1⟩:=words.nm (World.alloc V (.cells #[.int .i64 0,.bool false,.int .i64 0,.int .i64 0,.int .i64 0,.slice none 0 0,.string ⟨#[]⟩] 75));have hxv1:Below (World.heap V).size V v1:=words.b1 hv1;have HNv1:=hid (show v1.heap[(World.heap V).size]?=some (.cells #[.int .i64 0,.bool false,.int .i64 0,.int .i64 0,.int .i64 0,.slice none 0 0,.string ⟨#[]⟩] 75 (0,0)) by rw [hv1];exact heap_alloc_new V _);have HBv1:=hid (HBV.out.trans (hxv1.mono HBV.out.size));go_simp
   rw [←hv1];clear hv1 hxv1;clear hHeld;refine hK.out _ _ (HS.out _ HBv1.out) (fun hHeld=>?_);clear hK;try simp only [words.pt]
   refine wpAnyH_ready (rs:=[6]) (by kernel_rfl) (by simp) (.cons rfl (fun K hK=>?_) .nil);go_simp
   go_at_call 84
   refine (HCh.out _).mono ?_;rintro en vch ⟨rfl,rfl⟩;clear hHeld;refine hK.out _ _ (HS.out _ HBv1.out) (fun hHeld=>?_);clear hK;try simp only [words.pt]
   refine wpAnyH_ready (rs:=[7]) (by kernel_rfl) (by simp) (.cons rfl (fun K hK=>?_) .nil);go_simp
   go_at_call 90
   refine (HG.out _ HBv1.out).mono ?_;rintro en v2 ⟨rfl,hlv2⟩;have HLv2:=hid hlv2;have hqv2:=HAft.out _ _ HBv1.out hlv2;clear hlv2;clear hHeld;refine hK.out _ _ (hqv2) (fun hHeld=>?_);clear hK;try simp only [words.pt]
   refine words.tk 8 12 (v:=?_) ?_ ?_
   rotate_left 1
   ·intro _ h;(try dsimp only at h);go_simp;(try with_reducible rfl)
   try simp only [words.pt]
   refine words.tk 9 21 (v:=?_) ?_ ?_
   rotate_left 1
   ·intro _ h;(try dsimp only at h);go_simp;(try with_reducible rfl)
   try simp only [words.pt]
   refine words.tk 10 22 (v:=?_) ?_ ?_
   rotate_left 1
   ·intro _ h;(try dsimp only at h);go_simp;(try with_reducible rfl)
   try simp only [words.pt]
   refine wpAnyH_ready (rs:=[12]) (by kernel_rfl) (by simp) (.cons rfl (fun K hK=>?_) .nil);have hz:=HBlk.out _ _ _ _ HBv1.out HLv2.out HNv1.out HBV.out.size;have z0:=Jaa hz 0;have fz0:=Jab hz 0;have z1:=Jaa hz 1;have fz1:=Jab hz 1;have z2:=Jaa hz 2;have fz2:=Jab hz 2;have z3:=Jaa hz 3;have fz3:=Jab hz 3;have z4:=Jaa hz 4;have fz4:=Jab hz 4;have z5:=Jaa hz 5;have fz5:=Jab hz 5;have z6:=Jaa hz 6;have fz6:=Jab hz 6;obtain⟨v3,hv3⟩:=words.nm ((((((((v2.setCell ⟨(World.heap V).size,0,none⟩ (.int .i64 xe.ep)).setCell ⟨(World.heap V).size,1,none⟩ (.bool xe.th)).setCell ⟨(World.heap V).size,2,none⟩ (.int .i64 xe.kd)).setCell ⟨(World.heap V).size,3,none⟩ (.int .i64 xe.lv)).setCell ⟨(World.heap V).size,4,none⟩ (.int .i64 xe.nd)).setCell ⟨(World.heap V).size,5,none⟩ (.slice xe.da xe.dn xe.dc)).setCell ⟨(World.heap V).size,6,none⟩ (.string xe.tg)));have h9:v3=setsV v2 (World.heap V).size 0 [.int .i64 xe.ep,.bool xe.th,.int .i64 xe.kd,.int .i64 xe.lv,.int .i64 xe.nd,.slice xe.da xe.dn xe.dc,.string xe.tg]:=hv3;have HM:Hid (Mid W1 q B h i c x y k C xe (World.heap V).size v3):=hid (by rw [h9];exact HEarly.out _ _ _ HBv1.out HLv2.out HNv1.out HBV.out.size);have hqv3:=HM.out.q0;go_simp
   rw [←hv3];clear hv3 h9 hz z0 fz0 z1 fz1 z2 fz2 z3 fz3 z4 fz4 z5 fz5 z6 fz6;clear hHeld;refine hK.out _ _ (hqv3) (fun hHeld=>?_);clear hK;try simp only [words.pt]
   refine words.tk 13 11 (v:=?_) ?_ ?_
   rotate_left 1
   ·intro _ h;(try dsimp only at h);go_simp;(try with_reducible rfl)
   try simp only [words.pt]
   refine wpAnyH_done (by kernel_rfl) ?_ _;clear hHeld;go_wp2_with fail
   go_meet
   case rel=>exact⟨_,rfl,rfl,HM⟩
 case rest=>
  obtain⟨β,rfl,rfl,HM⟩:=hcut;have hmb:=HM.out.blk;have m0:=Jaa hmb 0;have HK1:=hid (HM.out.kept);obtain⟨bo',hdc⟩:=HM.out.dc;have n2:=Jaa hdc.blk 2;have g2:=Jab hdc.blk 2;have HDC:=hid hdc;have hzb:wc.heap[w.heap.size]?=some (.cells #[.int .i64 0,.bool false,.int .i64 0,.int .i64 0,.int .i64 0,.slice none 0 0,.string ⟨#[]⟩] 75 (0,0)):=HM.out.kept.blk HZ1.out (by unfold LS;decide);have hy1:IntKind.i64.wrap (y+1)=y+1:=IntWalk.i64_in _ (by omega);obtain⟨hd2,hk2⟩:=hdc.count 2 (.int .i64 (y+1)) (x':=x) (y':=y+1) rfl;have hz2:(wc.setCell ⟨q,2,none⟩ (.int .i64 (y+1))).heap[w.heap.size]?=some (.cells #[.int .i64 0,.bool false,.int .i64 0,.int .i64 0,.int .i64 0,.slice none 0 0,.string ⟨#[]⟩] 75 (0,0)):=hk2.blk hzb (by decide);obtain⟨W3,hW3⟩:=words.nm (wc.setCell ⟨q,2,none⟩ (.int .i64 (y+1)));rw [←hW3] at hd2 hk2 hz2;have hk3:Kept DS B w W3:=(Kept.of_below HB1.out DS B).trans ((keptWider HM.out.kept fun _=>LS.ds).trans (keptWider hk2 fun _ h=> .inr (.inr h)));have z0:=Jaa hz2 0;have fz0:=Jab hz2 0;have z1:=Jaa hz2 1;have fz1:=Jab hz2 1;have z2:=Jaa hz2 2;have fz2:=Jab hz2 2;have z3:=Jaa hz2 3;have fz3:=Jab hz2 3;have z4:=Jaa hz2 4;have fz4:=Jab hz2 4;have z5:=Jaa hz2 5;have fz5:=Jab hz2 5;have z6:=Jaa hz2 6;have fz6:=Jab hz2 6;have HZ2:=hid hz2;have HD2:=hid hd2;have HK3:=hid hk3;have HW3:=hid hW3;obtain⟨W9,hW9⟩:=words.nm ((((((((W3.setCell ⟨w.heap.size,0,none⟩ (.int .i64 0)).setCell ⟨w.heap.size,1,none⟩ (.bool false)).setCell ⟨w.heap.size,2,none⟩ (.int .i64 0)).setCell ⟨w.heap.size,3,none⟩ (.int .i64 0)).setCell ⟨w.heap.size,4,none⟩ (.int .i64 0)).setCell ⟨w.heap.size,5,none⟩ (.slice none 0 0)).setCell ⟨w.heap.size,6,none⟩ (.string ⟨#[]⟩)));have h9:W9=setsV W3 w.heap.size 0 [.int .i64 0,.bool false,.int .i64 0,.int .i64 0,.int .i64 0,.slice none 0 0,.string ⟨#[]⟩]:=hW9;have hbk9:W9.heap[w.heap.size]?=some (.cells #[.int .i64 0,.bool false,.int .i64 0,.int .i64 0,.int .i64 0,.slice none 0 0,.string ⟨#[]⟩] 75 (0,0)):=by rw [h9];exact Jak hz2 rfl
  have ht9:Tn (fun k=>k=w.heap.size) W3 W9:=by rw [h9];exact Jan (S:=fun k=>k=w.heap.size) _ (.inr rfl) _ _ _ (Tn.refl _ _)
  have hk39:Kept (fun t=>t=75) 0 W3 W9:=ht9.kept fun k hk=>by subst hk;exact⟨Nat.zero_le _,_,_,_,hz2,rfl⟩
  have HF:Hid ((∃bo',Dc W9 B q h (C.set i ⟨c.g,bo',c.r,getL c.L k⟩) x (y+1))∧Kept DS B w W9):=hid ⟨⟨bo',hd2.kept hk39 (by decide) (by decide) (by decide) (by decide) (by decide)⟩,⟨ht9.os.trans hk3.os,ht9.tape.trans hk3.tape,ht9.output.trans hk3.output,Nat.le_trans hk3.size ht9.size,fun j hj hc=>(ht9.block j (Nat.lt_of_lt_of_le hj hk3.size) (by omega)).trans (hk3.block j hj hc)⟩⟩;have y0:=Jaa hbk9 0;have y1:=Jaa hbk9 1;have y2:=Jaa hbk9 2;have y3:=Jaa hbk9 3;have y4:=Jaa hbk9 4;have y5:=Jaa hbk9 5;have y6:=Jaa hbk9 6;have HW9:=hid hW9;clear hmb HM hdc hzb hd2 hk2 hz2 hk3 h9 hbk9 ht9 hk39 hW3 hW9;rcases hgb:gb with _ |_
  ·clear hno
   subst hgb;go_upto_region 4 with fail
   rw [←HW3.out];clear n2 g2 m0;go_wp2_with fail
   rw [←HW9.out];exact bodyPost_ret (v:= .tuple #[.agg #[.int .i64 0,.bool false,.int .i64 0,.int .i64 0,.int .i64 0,.slice none 0 0,.string ⟨#[]⟩],.bool false]) (by simp [results,results50,go_sem,y0,y1,y2,y3,y4,y5,y6]) rfl ⟨rfl,HF.out⟩
  ·have hep:(xe.ep !=epoch)=true:=by
    rcases hno with hno |hno
    ·rw [hgb] at hno;cases hno
    ·simpa using hno
   clear hno;subst hgb;go_upto_region 4 with fail
   rw [←HW3.out];clear n2 g2 m0;go_wp2_with fail
   rw [←HW9.out];exact bodyPost_ret (v:= .tuple #[.agg #[.int .i64 0,.bool false,.int .i64 0,.int .i64 0,.int .i64 0,.slice none 0 0,.string ⟨#[]⟩],.bool false]) (by simp [results,results50,go_sem,y0,y1,y2,y3,y4,y5,y6]) rfl ⟨rfl,HF.out⟩
theorem look_yes (B q h i:Nat) (c:Cc) (C:List Cc) (x y:Int) (epoch:Int) (dir s k:ByteArray) (w:World) (d:Dc w B q h C x y) (hB:B≤w.heap.size) (hk:k=childB dir s) (h1:0<C.length) (h2:C.length≤256) (hki:i=ofF k C.length) (hi:C[i]?=some c) (hlen:c.L.length≤1000) (hd:dir.size≤1000000) (hs:s.size≤1000000) (hx:0≤x∧x≤1000000) (lo:Nat) (P:List (Int×Int)) (hP:P.length≤1000)
  (hgot:lrd.gotB c.L k=true) (hep0:(lrd.gotI c.L k).ep=epoch) (hsp:Sp w lo (lrd.gotI c.L k).da (lrd.gotI c.L k).dn P):
  Calls prog 50 #[.pointer (some ⟨q,0,none⟩),.int .i64 epoch,.string dir,.string s] w fun e w'=>∃(A:Option Addr) (c':Nat),e= .returned (.tuple #[.agg #[.int .i64 (lrd.gotI c.L k).ep,.bool (lrd.gotI c.L k).th,.int .i64 (lrd.gotI c.L k).kd,.int .i64 (lrd.gotI c.L k).lv,.int .i64 (lrd.gotI c.L k).nd,.slice A (lrd.gotI c.L k).dn c',.string (lrd.gotI c.L k).tg],.bool true])∧Sp w' w.heap.size A (lrd.gotI c.L k).dn P∧(∃bo',Dc w' B q h (C.set i ⟨c.g,bo',c.r,getL c.L k⟩) (x+1) y)∧Kept DS B w w':=by
 obtain⟨xe,hxe⟩:=words.nm (lrd.gotI c.L k);obtain⟨gb,hgb⟩:=words.nm (lrd.gotB c.L k);rw [←hxe] at hep0 hsp ⊢;rw [←hgb] at hgot;obtain⟨W1,hW1⟩:=words.nm (w.alloc (.cells #[.int .i64 0,.bool false,.int .i64 0,.int .i64 0,.int .i64 0,.slice none 0 0,.string ⟨#[]⟩] 75));have hb1:=words.b1 hW1;have hz1:W1.heap[w.heap.size]?=some (.cells #[.int .i64 0,.bool false,.int .i64 0,.int .i64 0,.int .i64 0,.slice none 0 0,.string ⟨#[]⟩] 75 (0,0)):=by rw [hW1];exact heap_alloc_new w _
 have d1:=d.later hb1;have HCh:=hid (fun w=>Jbm dir s w (by omega) (by omega));rw [←hk] at HCh;have hks:k.size≤9223372036854775807:=by have:=Jbn dir s;rw [hk];omega
 have HG:Hid (∀V:World,Below W1.heap.size W1 V→Calls prog 90 #[.pointer (some ⟨h,0,none⟩),.string k] V fun e w'=>e= .returned (.tuple #[.agg #[.int .i64 xe.ep,.bool xe.th,.int .i64 xe.kd,.int .i64 xe.lv,.int .i64 xe.nd,.slice xe.da xe.dn xe.dc,.string xe.tg],.bool gb])∧lrd.Left V B c.g c.r c.bo (getL c.L k) w'):=hid fun V hV=>by
  have dV:=d1.later hV;have:=Jbj B h c.g (gsOf C) c.bo c.r c.L k V dV.shd (by rw [gs_len];exact h1) (by rw [gs_len];exact h2) hks (by rw [gs_len,←hki];exact Jfy hi) (dV.fam.lru i c hi) (dV.fam.ok i c hi) hlen;unfold lrd.Got at this;rw [←hxe,←hgb] at this;exact this
 have HS:Hid (∀V:World,Below W1.heap.size W1 V→V.cell? ⟨q,0,none⟩=some (.pointer (some ⟨h,0,none⟩))):=hid fun V hV=>Jaa (d1.later hV).blk 0;have HAft:Hid (∀V w3:World,Below W1.heap.size W1 V→lrd.Left V B c.g c.r c.bo (getL c.L k) w3→w3.cell? ⟨q,0,none⟩=some (.pointer (some ⟨h,0,none⟩))):=hid fun V w3 hV hl=>by
  obtain⟨⟨_,h3⟩,_⟩:=d1.got hi hV hl;exact Jaa h3.blk 0
 have HBlk:Hid (∀(V w3:World) (β β':Nat),Below W1.heap.size W1 V→lrd.Left V B c.g c.r c.bo (getL c.L k) w3→V.heap[β]?=some (.cells #[.int .i64 0,.bool false,.int .i64 0,.int .i64 0,.int .i64 0,.slice none 0 0,.string ⟨#[]⟩] 75 (0,0))→W1.heap.size≤β'→w3.heap[β]?=some (.cells #[.int .i64 0,.bool false,.int .i64 0,.int .i64 0,.int .i64 0,.slice none 0 0,.string ⟨#[]⟩] 75 (0,0))):=hid fun V w3 β β' hV hl hb _=>((d1.later hV).left hi hl ((d1.fam.ok i c hi).get k)).2.blk hb (by unfold LS;decide);have HEarly:Hid (∀(V w3:World) (β:Nat),Below W1.heap.size W1 V→lrd.Left V B c.g c.r c.bo (getL c.L k) w3→V.heap[β]?=some (.cells #[.int .i64 0,.bool false,.int .i64 0,.int .i64 0,.int .i64 0,.slice none 0 0,.string ⟨#[]⟩] 75 (0,0))→W1.heap.size≤β→Mid W1 q B h i c x y k C xe β (setsV w3 β 0 [.int .i64 xe.ep,.bool xe.th,.int .i64 xe.kd,.int .i64 xe.lv,.int .i64 xe.nd,.slice xe.da xe.dn xe.dc,.string xe.tg])):=hid fun V w3 β hV hl hb hβ=>by
  obtain⟨h3,h4⟩:=d1.got hi hV hl;exact Mid.of xe h3 h4 (((d1.later hV).left hi hl ((d1.fam.ok i c hi).get k)).2.blk hb (by unfold LS;decide)) hβ
 have HLate:Hid (∀(V w3 w4:World) (β:Nat),Below W1.heap.size W1 V→lrd.Left V B c.g c.r c.bo (getL c.L k) w3→Below w3.heap.size w3 w4→w4.heap[β]?=some (.cells #[.int .i64 0,.bool false,.int .i64 0,.int .i64 0,.int .i64 0,.slice none 0 0,.string ⟨#[]⟩] 75 (0,0))→w3.heap.size≤β→Mid W1 q B h i c x y k C xe β (setsV w4 β 0 [.int .i64 xe.ep,.bool xe.th,.int .i64 xe.kd,.int .i64 xe.lv,.int .i64 xe.nd,.slice xe.da xe.dn xe.dc,.string xe.tg])):=hid fun V w3 w4 β hV hl hb hz hβ=>by
  obtain⟨⟨bo',h3⟩,h4⟩:=d1.got hi hV hl;exact Mid.of xe ⟨bo',h3.later hb⟩ (h4.trans (Kept.of_below hb LS B)) hz (Nat.le_trans (Nat.le_trans hV.size hl.tn.size) hβ)
 have HZ1:=hid hz1;have HB1:=hid hb1;have HBw:Hid (B≤w.heap.size):=hid hB;have HW1:=hid hW1;have HSP:=hid hsp;have hep:(xe.ep !=epoch)=false:=by simpa using hep0
 have HGot:=hid hgot;have HP:=hid hP;clear hz1 hb1 hW1 hk hki hd hs hks hxe hgb d d1 hi hlen h1 h2 hB hsp hgot hep0 hP;go_enter func50,ntmps50
 go_upto_region 1 with fail
 rw [←HW1.out];go_cut [10,11] from 12 to 22 (fun v vb wx=>∃β:Nat,v= .pointer (some ⟨β,0,none⟩)∧vb= .bool gb∧Hid (Mid W1 q B h i c x y k C xe β wx))
 case first=>
  obtain⟨V,hV⟩:=words.nm (World.drew W1);have HBV:=hid (show Below W1.heap.size W1 V by rw [hV];exact (Below.refl _ _).drew);refine wp_region_held_drew (S:=fun w'=>w'.cell? ⟨q,0,none⟩=some (.pointer (some ⟨h,0,none⟩))) (by kernel_rfl) (by rw [←hV];exact HS.out _ HBV.out) (fun hHeld=>?_);rw [←hV] at hHeld ⊢;clear hV;refine words.tk 0 13 (v:=?_) ?_ ?_
  rotate_left 1
  ·intro _ h;(try dsimp only at h);go_simp;(try with_reducible rfl)
  try simp only [words.pt]
  refine words.tk 1 14 (v:=?_) ?_ ?_
  rotate_left 1
  ·intro _ h;(try dsimp only at h);go_simp;(try with_reducible rfl)
  try simp only [words.pt]
  refine words.tk 2 15 (v:=?_) ?_ ?_
  rotate_left 1
  ·intro _ h;(try dsimp only at h);go_simp;(try with_reducible rfl)
  try simp only [words.pt]
  refine words.tk 3 16 (v:=?_) ?_ ?_
  rotate_left 1
  ·intro _ h;(try dsimp only at h);go_simp;(try with_reducible rfl)
  try simp only [words.pt]
  refine words.tk 4 17 (v:=?_) ?_ ?_
  rotate_left 1
  ·intro _ h;(try dsimp only at h);go_simp;(try with_reducible rfl)
  try simp only [words.pt]
  refine words.tk 5 18 (v:=?_) ?_ ?_
  rotate_left 1
  ·intro _ h;(try dsimp only at h);go_simp;(try with_reducible rfl)
  try simp only [words.pt]
  refine wpAnyH_ready (rs:=[6,11]) (by kernel_rfl) (by simp) ?_;refine AllReadyH.cons rfl (fun K hK=>?_) (AllReadyH.cons rfl (fun K hK=>?_) AllReadyH.nil)
  ·skip
   go_simp
   go_at_call 84
   refine (HCh.out _).mono ?_;rintro en vch ⟨rfl,rfl⟩;clear hHeld;refine hK.out _ _ (HS.out _ HBV.out) (fun hHeld=>?_);clear hK;try simp only [words.pt]
   refine wpAnyH_ready (rs:=[7,11]) (by kernel_rfl) (by simp) ?_;refine AllReadyH.cons rfl (fun K hK=>?_) (AllReadyH.cons rfl (fun K hK=>?_) AllReadyH.nil)
   ·skip
    go_simp
    go_at_call 90
    refine (HG.out _ HBV.out).mono ?_;rintro en v1 ⟨rfl,hlv1⟩;have HLv1:=hid hlv1;have hqv1:=HAft.out _ _ HBV.out hlv1;clear hlv1;clear hHeld;refine hK.out _ _ (hqv1) (fun hHeld=>?_);clear hK;try simp only [words.pt]
    refine words.tk 8 12 (v:=?_) ?_ ?_
    rotate_left 1
    ·intro _ h;(try dsimp only at h);go_simp;(try with_reducible rfl)
    try simp only [words.pt]
    refine words.tk 9 21 (v:=?_) ?_ ?_
    rotate_left 1
    ·intro _ h;(try dsimp only at h);go_simp;(try with_reducible rfl)
    try simp only [words.pt]
    refine words.tk 10 22 (v:=?_) ?_ ?_
    rotate_left 1
    ·intro _ h;(try dsimp only at h);go_simp;(try with_reducible rfl)
    try simp only [words.pt]
    refine wpAnyH_ready (rs:=[11]) (by kernel_rfl) (by simp) (.cons rfl (fun K hK=>?_) .nil);obtain⟨v2,hv2⟩:=words.nm (World.alloc v1 (.cells #[.int .i64 0,.bool false,.int .i64 0,.int .i64 0,.int .i64 0,.slice none 0 0,.string ⟨#[]⟩] 75));have hxv2:Below (World.heap v1).size v1 v2:=words.b1 hv2;have HNv2:=hid (show v2.heap[(World.heap v1).size]?=some (.cells #[.int .i64 0,.bool false,.int .i64 0,.int .i64 0,.int .i64 0,.slice none 0 0,.string ⟨#[]⟩] 75 (0,0)) by rw [hv2];exact heap_alloc_new v1 _);have hqv2:=(hxv2.cell (p:=⟨q,0,none⟩) (World.block_lt_of_cell? _ _ hqv1)).trans hqv1;have HXv2:=hid hxv2;go_simp
    rw [←hv2];clear hv2 hxv2;clear hHeld;refine hK.out _ _ (hqv2) (fun hHeld=>?_);clear hK;try simp only [words.pt]
    refine wpAnyH_ready (rs:=[12]) (by kernel_rfl) (by simp) (.cons rfl (fun K hK=>?_) .nil);have hz:=HNv2.out;have z0:=Jaa hz 0;have fz0:=Jab hz 0;have z1:=Jaa hz 1;have fz1:=Jab hz 1;have z2:=Jaa hz 2;have fz2:=Jab hz 2;have z3:=Jaa hz 3;have fz3:=Jab hz 3;have z4:=Jaa hz 4;have fz4:=Jab hz 4;have z5:=Jaa hz 5;have fz5:=Jab hz 5;have z6:=Jaa hz 6;have fz6:=Jab hz 6;obtain⟨v3,hv3⟩:=words.nm ((((((((v2.setCell ⟨(World.heap v1).size,0,none⟩ (.int .i64 xe.ep)).setCell ⟨(World.heap v1).size,1,none⟩ (.bool xe.th)).setCell ⟨(World.heap v1).size,2,none⟩ (.int .i64 xe.kd)).setCell ⟨(World.heap v1).size,3,none⟩ (.int .i64 xe.lv)).setCell ⟨(World.heap v1).size,4,none⟩ (.int .i64 xe.nd)).setCell ⟨(World.heap v1).size,5,none⟩ (.slice xe.da xe.dn xe.dc)).setCell ⟨(World.heap v1).size,6,none⟩ (.string xe.tg)));have h9:v3=setsV v2 (World.heap v1).size 0 [.int .i64 xe.ep,.bool xe.th,.int .i64 xe.kd,.int .i64 xe.lv,.int .i64 xe.nd,.slice xe.da xe.dn xe.dc,.string xe.tg]:=hv3;have HM:Hid (Mid W1 q B h i c x y k C xe (World.heap v1).size v3):=hid (by rw [h9];exact HLate.out _ _ _ _ HBV.out HLv1.out HXv2.out HNv2.out (Nat.le_refl _));have hqv3:=HM.out.q0;go_simp
    rw [←hv3];clear hv3 h9 hz z0 fz0 z1 fz1 z2 fz2 z3 fz3 z4 fz4 z5 fz5 z6 fz6;clear hHeld;refine hK.out _ _ (hqv3) (fun hHeld=>?_);clear hK;try simp only [words.pt]
    refine words.tk 13 11 (v:=?_) ?_ ?_
    rotate_left 1
    ·intro _ h;(try dsimp only at h);go_simp;(try with_reducible rfl)
    try simp only [words.pt]
    refine wpAnyH_done (by kernel_rfl) ?_ _;clear hHeld;go_wp2_with fail
    go_meet
    case rel=>exact⟨_,rfl,rfl,HM⟩
   ·skip
    obtain⟨v1,hv1⟩:=words.nm (World.alloc V (.cells #[.int .i64 0,.bool false,.int .i64 0,.int .i64 0,.int .i64 0,.slice none 0 0,.string ⟨#[]⟩] 75));have hxv1:Below (World.heap V).size V v1:=words.b1 hv1;have HNv1:=hid (show v1.heap[(World.heap V).size]?=some (.cells #[.int .i64 0,.bool false,.int .i64 0,.int .i64 0,.int .i64 0,.slice none 0 0,.string ⟨#[]⟩] 75 (0,0)) by rw [hv1];exact heap_alloc_new V _);have HBv1:=hid (HBV.out.trans (hxv1.mono HBV.out.size));go_simp
    rw [←hv1];clear hv1 hxv1;clear hHeld;refine hK.out _ _ (HS.out _ HBv1.out) (fun hHeld=>?_);clear hK;try simp only [words.pt]
    refine wpAnyH_ready (rs:=[7]) (by kernel_rfl) (by simp) (.cons rfl (fun K hK=>?_) .nil);go_simp
    go_at_call 90
    refine (HG.out _ HBv1.out).mono ?_;rintro en v2 ⟨rfl,hlv2⟩;have HLv2:=hid hlv2;have hqv2:=HAft.out _ _ HBv1.out hlv2;clear hlv2;clear hHeld;refine hK.out _ _ (hqv2) (fun hHeld=>?_);clear hK;try simp only [words.pt]
    refine words.tk 8 12 (v:=?_) ?_ ?_
    rotate_left 1
    ·intro _ h;(try dsimp only at h);go_simp;(try with_reducible rfl)
    try simp only [words.pt]
    refine words.tk 9 21 (v:=?_) ?_ ?_
    rotate_left 1
    ·intro _ h;(try dsimp only at h);go_simp;(try with_reducible rfl)
    try simp only [words.pt]
    refine words.tk 10 22 (v:=?_) ?_ ?_
    rotate_left 1
    ·intro _ h;(try dsimp only at h);go_simp;(try with_reducible rfl)
    try simp only [words.pt]
    refine wpAnyH_ready (rs:=[12]) (by kernel_rfl) (by simp) (.cons rfl (fun K hK=>?_) .nil);have hz:=HBlk.out _ _ _ _ HBv1.out HLv2.out HNv1.out HBV.out.size;have z0:=Jaa hz 0;have fz0:=Jab hz 0;have z1:=Jaa hz 1;have fz1:=Jab hz 1;have z2:=Jaa hz 2;have fz2:=Jab hz 2;have z3:=Jaa hz 3;have fz3:=Jab hz 3;have z4:=Jaa hz 4;have fz4:=Jab hz 4;have z5:=Jaa hz 5;have fz5:=Jab hz 5;have z6:=Jaa hz 6;have fz6:=Jab hz 6;obtain⟨v3,hv3⟩:=words.nm ((((((((v2.setCell ⟨(World.heap V).size,0,none⟩ (.int .i64 xe.ep)).setCell ⟨(World.heap V).size,1,none⟩ (.bool xe.th)).setCell ⟨(World.heap V).size,2,none⟩ (.int .i64 xe.kd)).setCell ⟨(World.heap V).size,3,none⟩ (.int .i64 xe.lv)).setCell ⟨(World.heap V).size,4,none⟩ (.int .i64 xe.nd)).setCell ⟨(World.heap V).size,5,none⟩ (.slice xe.da xe.dn xe.dc)).setCell ⟨(World.heap V).size,6,none⟩ (.string xe.tg)));have h9:v3=setsV v2 (World.heap V).size 0 [.int .i64 xe.ep,.bool xe.th,.int .i64 xe.kd,.int .i64 xe.lv,.int .i64 xe.nd,.slice xe.da xe.dn xe.dc,.string xe.tg]:=hv3;have HM:Hid (Mid W1 q B h i c x y k C xe (World.heap V).size v3):=hid (by rw [h9];exact HEarly.out _ _ _ HBv1.out HLv2.out HNv1.out HBV.out.size);have hqv3:=HM.out.q0;go_simp
    rw [←hv3];clear hv3 h9 hz z0 fz0 z1 fz1 z2 fz2 z3 fz3 z4 fz4 z5 fz5 z6 fz6;clear hHeld;refine hK.out _ _ (hqv3) (fun hHeld=>?_);clear hK;try simp only [words.pt]
    refine words.tk 13 11 (v:=?_) ?_ ?_
    rotate_left 1
    ·intro _ h;(try dsimp only at h);go_simp;(try with_reducible rfl)
    try simp only [words.pt]
    refine wpAnyH_done (by kernel_rfl) ?_ _;clear hHeld;go_wp2_with fail
    go_meet
    case rel=>exact⟨_,rfl,rfl,HM⟩
  ·skip
   obtain⟨v1,hv1⟩:=words.nm (World.alloc V (.cells #[.int .i64 0,.bool false,.int .i64 0,.int .i64 0,.int .i64 0,.slice none 0 0,.string ⟨#[]⟩] 75));have hxv1:Below (World.heap V).size V v1:=words.b1 hv1;have HNv1:=hid (show v1.heap[(World.heap V).size]?=some (.cells #[.int .i64 0,.bool false,.int .i64 0,.int .i64 0,.int .i64 0,.slice none 0 0,.string ⟨#[]⟩] 75 (0,0)) by rw [hv1];exact heap_alloc_new V _);have HBv1:=hid (HBV.out.trans (hxv1.mono HBV.out.size));go_simp
   rw [←hv1];clear hv1 hxv1;clear hHeld;refine hK.out _ _ (HS.out _ HBv1.out) (fun hHeld=>?_);clear hK;try simp only [words.pt]
   refine wpAnyH_ready (rs:=[6]) (by kernel_rfl) (by simp) (.cons rfl (fun K hK=>?_) .nil);go_simp
   go_at_call 84
   refine (HCh.out _).mono ?_;rintro en vch ⟨rfl,rfl⟩;clear hHeld;refine hK.out _ _ (HS.out _ HBv1.out) (fun hHeld=>?_);clear hK;try simp only [words.pt]
   refine wpAnyH_ready (rs:=[7]) (by kernel_rfl) (by simp) (.cons rfl (fun K hK=>?_) .nil);go_simp
   go_at_call 90
   refine (HG.out _ HBv1.out).mono ?_;rintro en v2 ⟨rfl,hlv2⟩;have HLv2:=hid hlv2;have hqv2:=HAft.out _ _ HBv1.out hlv2;clear hlv2;clear hHeld;refine hK.out _ _ (hqv2) (fun hHeld=>?_);clear hK;try simp only [words.pt]
   refine words.tk 8 12 (v:=?_) ?_ ?_
   rotate_left 1
   ·intro _ h;(try dsimp only at h);go_simp;(try with_reducible rfl)
   try simp only [words.pt]
   refine words.tk 9 21 (v:=?_) ?_ ?_
   rotate_left 1
   ·intro _ h;(try dsimp only at h);go_simp;(try with_reducible rfl)
   try simp only [words.pt]
   refine words.tk 10 22 (v:=?_) ?_ ?_
   rotate_left 1
   ·intro _ h;(try dsimp only at h);go_simp;(try with_reducible rfl)
   try simp only [words.pt]
   refine wpAnyH_ready (rs:=[12]) (by kernel_rfl) (by simp) (.cons rfl (fun K hK=>?_) .nil);have hz:=HBlk.out _ _ _ _ HBv1.out HLv2.out HNv1.out HBV.out.size;have z0:=Jaa hz 0;have fz0:=Jab hz 0;have z1:=Jaa hz 1;have fz1:=Jab hz 1;have z2:=Jaa hz 2;have fz2:=Jab hz 2;have z3:=Jaa hz 3;have fz3:=Jab hz 3;have z4:=Jaa hz 4;have fz4:=Jab hz 4;have z5:=Jaa hz 5;have fz5:=Jab hz 5;have z6:=Jaa hz 6;have fz6:=Jab hz 6;obtain⟨v3,hv3⟩:=words.nm ((((((((v2.setCell ⟨(World.heap V).size,0,none⟩ (.int .i64 xe.ep)).setCell ⟨(World.heap V).size,1,none⟩ (.bool xe.th)).setCell ⟨(World.heap V).size,2,none⟩ (.int .i64 xe.kd)).setCell ⟨(World.heap V).size,3,none⟩ (.int .i64 xe.lv)).setCell ⟨(World.heap V).size,4,none⟩ (.int .i64 xe.nd)).setCell ⟨(World.heap V).size,5,none⟩ (.slice xe.da xe.dn xe.dc)).setCell ⟨(World.heap V).size,6,none⟩ (.string xe.tg)));have h9:v3=setsV v2 (World.heap V).size 0 [.int .i64 xe.ep,.bool xe.th,.int .i64 xe.kd,.int .i64 xe.lv,.int .i64 xe.nd,.slice xe.da xe.dn xe.dc,.string xe.tg]:=hv3;have HM:Hid (Mid W1 q B h i c x y k C xe (World.heap V).size v3):=hid (by rw [h9];exact HEarly.out _ _ _ HBv1.out HLv2.out HNv1.out HBV.out.size);have hqv3:=HM.out.q0;go_simp
   rw [←hv3];clear hv3 h9 hz z0 fz0 z1 fz1 z2 fz2 z3 fz3 z4 fz4 z5 fz5 z6 fz6;clear hHeld;refine hK.out _ _ (hqv3) (fun hHeld=>?_);clear hK;try simp only [words.pt]
   refine words.tk 13 11 (v:=?_) ?_ ?_
   rotate_left 1
   ·intro _ h;(try dsimp only at h);go_simp;(try with_reducible rfl)
   try simp only [words.pt]
   refine wpAnyH_done (by kernel_rfl) ?_ _;clear hHeld;go_wp2_with fail
   go_meet
   case rel=>exact⟨_,rfl,rfl,HM⟩
 case rest=>
  obtain⟨β,rfl,rfl,HM⟩:=hcut;have hgt:=HGot.out;subst hgt;have hmb:=HM.out.blk;obtain⟨bo',hdc⟩:=HM.out.dc;have m0:=Jaa hmb 0;have n1:=Jaa hdc.blk 1;have g1:=Jab hdc.blk 1;have hzb:wc.heap[w.heap.size]?=some (.cells #[.int .i64 0,.bool false,.int .i64 0,.int .i64 0,.int .i64 0,.slice none 0 0,.string ⟨#[]⟩] 75 (0,0)):=HM.out.kept.blk HZ1.out (by unfold LS;decide);have hx1:IntKind.i64.wrap (x+1)=x+1:=IntWalk.i64_in _ (by omega);obtain⟨hd2,hk2⟩:=hdc.count 1 (.int .i64 (x+1)) (x':=x+1) (y':=y) rfl;have hz2:(wc.setCell ⟨q,1,none⟩ (.int .i64 (x+1))).heap[w.heap.size]?=some (.cells #[.int .i64 0,.bool false,.int .i64 0,.int .i64 0,.int .i64 0,.slice none 0 0,.string ⟨#[]⟩] 75 (0,0)):=hk2.blk hzb (by decide);have hm2:(wc.setCell ⟨q,1,none⟩ (.int .i64 (x+1))).heap[β]?=some (.cells #[.int .i64 xe.ep,.bool xe.th,.int .i64 xe.kd,.int .i64 xe.lv,.int .i64 xe.nd,.slice xe.da xe.dn xe.dc,.string xe.tg] 75 (0,0)):=hk2.blk hmb (by decide);obtain⟨W3,hW3⟩:=words.nm (wc.setCell ⟨q,1,none⟩ (.int .i64 (x+1)));rw [←hW3] at hd2 hk2 hz2 hm2;have hk3:Kept DS B w W3:=(Kept.of_below HB1.out DS B).trans ((keptWider HM.out.kept fun _=>LS.ds).trans (keptWider hk2 fun _ h=> .inr (.inr h)));have hsp3:=HSP.out.kept hk3 (by unfold DS;decide);have b0:=Jaa hm2 0;have b1:=Jaa hm2 1;have b2:=Jaa hm2 2;have b3:=Jaa hm2 3;have b4:=Jaa hm2 4;have b5:=Jaa hm2 5;have b6:=Jaa hm2 6;have HAP:=hid (Jf8 lo xe P W3 hsp3 HP.out);have HZ2:=hid hz2;have HD2:=hid hd2;have HK3:=hid hk3;have HW3:=hid hW3;clear hmb hdc hzb hd2 hk2 hz2 hm2 hk3 hsp3 hW3 HM;go_upto_region 6 with fail
  rw [←HW3.out];clear n1 g1 m0;go_wp2_with fail
  refine HAP.out.mono ?_;rintro en w4 ⟨⟨A,c',rfl,hsp4⟩,hb4⟩;have hz4:w4.heap[w.heap.size]?=some (.cells #[.int .i64 0,.bool false,.int .i64 0,.int .i64 0,.int .i64 0,.slice none 0 0,.string ⟨#[]⟩] 75 (0,0)):=(hb4.block _ (lt_of_some HZ2.out)).trans HZ2.out;have hd4:=HD2.out.later hb4;have hk4:Kept DS B w w4:=HK3.out.trans (Kept.of_below hb4 DS B);have hsp5:=hsp4.mono (show w.heap.size≤W3.heap.size from HK3.out.size);have z0:=Jaa hz4 0;have fz0:=Jab hz4 0;have z1:=Jaa hz4 1;have fz1:=Jab hz4 1;have z2:=Jaa hz4 2;have fz2:=Jab hz4 2;have z3:=Jaa hz4 3;have fz3:=Jab hz4 3;have z4:=Jaa hz4 4;have fz4:=Jab hz4 4;have z5:=Jaa hz4 5;have fz5:=Jab hz4 5;have z6:=Jaa hz4 6;have fz6:=Jab hz4 6;obtain⟨W9,hW9⟩:=words.nm ((((((((w4.setCell ⟨w.heap.size,0,none⟩ (.int .i64 xe.ep)).setCell ⟨w.heap.size,1,none⟩ (.bool xe.th)).setCell ⟨w.heap.size,2,none⟩ (.int .i64 xe.kd)).setCell ⟨w.heap.size,3,none⟩ (.int .i64 xe.lv)).setCell ⟨w.heap.size,4,none⟩ (.int .i64 xe.nd)).setCell ⟨w.heap.size,5,none⟩ (.slice A xe.dn c')).setCell ⟨w.heap.size,6,none⟩ (.string xe.tg)));have h9:W9=setsV w4 w.heap.size 0 [.int .i64 xe.ep,.bool xe.th,.int .i64 xe.kd,.int .i64 xe.lv,.int .i64 xe.nd,.slice A xe.dn c',.string xe.tg]:=hW9;have hbk9:W9.heap[w.heap.size]?=some (.cells #[.int .i64 xe.ep,.bool xe.th,.int .i64 xe.kd,.int .i64 xe.lv,.int .i64 xe.nd,.slice A xe.dn c',.string xe.tg] 75 (0,0)):=by rw [h9];exact Jak hz4 rfl
  have ht9:Tn (fun k=>k=w.heap.size) w4 W9:=by rw [h9];exact Jan (S:=fun k=>k=w.heap.size) _ (.inr rfl) _ _ _ (Tn.refl _ _)
  have hk49:Kept (fun t=>t=75) 0 w4 W9:=ht9.kept fun k hk=>by subst hk;exact⟨Nat.zero_le _,_,_,_,hz4,rfl⟩
  have HF:Hid (Sp W9 w.heap.size A xe.dn P∧(∃bo',Dc W9 B q h (C.set i ⟨c.g,bo',c.r,getL c.L k⟩) (x+1) y)∧Kept DS B w W9):=hid ⟨hsp5.kept hk49 (by decide),⟨bo',hd4.kept hk49 (by decide) (by decide) (by decide) (by decide) (by decide)⟩,⟨ht9.os.trans hk4.os,ht9.tape.trans hk4.tape,ht9.output.trans hk4.output,Nat.le_trans hk4.size ht9.size,fun j hj hc=>(ht9.block j (Nat.lt_of_lt_of_le hj hk4.size) (by omega)).trans (hk4.block j hj hc)⟩⟩;have y0:=Jaa hbk9 0;have y1:=Jaa hbk9 1;have y2:=Jaa hbk9 2;have y3:=Jaa hbk9 3;have y4:=Jaa hbk9 4;have y5:=Jaa hbk9 5;have y6:=Jaa hbk9 6;have HW9:=hid hW9;clear hz4 hd4 hk4 hsp4 hsp5 hb4 h9 hbk9 ht9 hk49 hW9;go_wp2_with fail
  rw [←HW9.out];exact bodyPost_ret (v:= .tuple #[.agg #[.int .i64 xe.ep,.bool xe.th,.int .i64 xe.kd,.int .i64 xe.lv,.int .i64 xe.nd,.slice A xe.dn c',.string xe.tg],.bool true]) (by simp [results,results50,go_sem,y0,y1,y2,y3,y4,y5,y6]) rfl ⟨A,c',rfl,HF.out⟩
theorem keep_no (B q h i:Nat) (c:Cc) (C:List Cc) (x y:Int) (v:Ent) (dir s k:ByteArray) (w:World) (d:Dc w B q h C x y) (hB:B≤w.heap.size) (hk:k=childB dir s) (h1:0<C.length) (h2:C.length≤256) (hki:i=ofF k C.length) (hi:C[i]?=some c) (hlen:c.L.length≤900) (hd:dir.size≤1000000) (hs:s.size≤1000000)
  (hno:lrd.gotB c.L k=true∧v.ep<(lrd.gotI c.L k).ep):
  Calls prog 52 #[.pointer (some ⟨q,0,none⟩),.string dir,.string s,.agg #[.int .i64 v.ep,.bool v.th,.int .i64 v.kd,.int .i64 v.lv,.int .i64 v.nd,.slice v.da v.dn v.dc,.string v.tg]] w fun e w'=>e= .returned (.bool false)∧(∃bo',Dc w' B q h (C.set i ⟨c.g,bo',c.r,getL c.L k⟩) x y)∧Kept DS B w w':=by
 obtain⟨xe,hxe⟩:=words.nm (lrd.gotI c.L k);obtain⟨gb,hgb⟩:=words.nm (lrd.gotB c.L k);rw [←hxe,←hgb] at hno;obtain⟨W1,hW1⟩:=words.nm (w.alloc (.cells #[.int .i64 v.ep,.bool v.th,.int .i64 v.kd,.int .i64 v.lv,.int .i64 v.nd,.slice v.da v.dn v.dc,.string v.tg] 75));have hb1:=words.b1 hW1;have hz1:W1.heap[w.heap.size]?=some (.cells #[.int .i64 v.ep,.bool v.th,.int .i64 v.kd,.int .i64 v.lv,.int .i64 v.nd,.slice v.da v.dn v.dc,.string v.tg] 75 (0,0)):=by rw [hW1];exact heap_alloc_new w _
 have d1:=d.later hb1;have HCh:=hid (fun w=>Jbm dir s w (by omega) (by omega));rw [←hk] at HCh;have hks:k.size≤9223372036854775807:=by have:=Jbn dir s;rw [hk];omega
 have hB1:B≤W1.heap.size:=Nat.le_trans hB hb1.size;have HG:Hid (Calls prog 90 #[.pointer (some ⟨h,0,none⟩),.string k] W1 fun e w'=>e= .returned (.tuple #[.agg #[.int .i64 xe.ep,.bool xe.th,.int .i64 xe.kd,.int .i64 xe.lv,.int .i64 xe.nd,.slice xe.da xe.dn xe.dc,.string xe.tg],.bool gb])∧lrd.Left W1 B c.g c.r c.bo (getL c.L k) w'):=hid (by
   have:=Jbj B h c.g (gsOf C) c.bo c.r c.L k W1 d1.shd (by rw [gs_len];exact h1) (by rw [gs_len];exact h2) hks (by rw [gs_len,←hki];exact Jfy hi) (d1.fam.lru i c hi) (d1.fam.ok i c hi) (by omega);unfold lrd.Got at this;rw [←hxe,←hgb] at this;exact this)
 have HLF:Hid (∀w2:World,lrd.Left W1 B c.g c.r c.bo (getL c.L k) w2→(∃bo',Dc w2 B q h (C.set i ⟨c.g,bo',c.r,getL c.L k⟩) x y)∧Kept LS B W1 w2):=hid fun w2 h2=>d1.left hi h2 ((d.fam.ok i c hi).get k);have c0:=Jaa d1.blk 0;unfold ptrC at c0;have HZ1:=hid hz1;have HB1:=hid hb1;have HBw:Hid (B≤w.heap.size):=hid hB;have HW1:=hid hW1;obtain⟨hgt,hep⟩:=hno;subst hgt;have HF:Hid (∀w',(∃bo',Dc w' B q h (C.set i ⟨c.g,bo',c.r,getL c.L k⟩) x y)→Kept LS B w w'→(∃bo',Dc w' B q h (C.set i ⟨c.g,bo',c.r,getL c.L k⟩) x y)∧Kept DS B w w'):=hid fun w' a b=>⟨a,keptWider b fun _=>LS.ds⟩
 clear hz1 hb1 hW1 hk hki hd hs hks hxe hgb d d1 hi hlen h1 h2 hB hB1;go_enter func52,ntmps52
 go_upto_region 1 with fail
 rw [←HW1.out];go_wp2_with fail
 refine (HCh.out _).mono ?_;rintro en vch ⟨rfl,rfl⟩;go_wp2_with fail
 refine HG.out.mono ?_;rintro en w2 ⟨rfl,hl2⟩;obtain⟨⟨bo',d2⟩,hk2⟩:=HLF.out w2 hl2;obtain⟨W3,hW3⟩:=words.nm (w2.alloc (.cells #[.int .i64 xe.ep,.bool xe.th,.int .i64 xe.kd,.int .i64 xe.lv,.int .i64 xe.nd,.slice xe.da xe.dn xe.dc,.string xe.tg] 75));have hb3:Below w2.heap.size w2 W3:=words.b1 hW3;have hx3:W3.heap[w2.heap.size]?=some (.cells #[.int .i64 xe.ep,.bool xe.th,.int .i64 xe.kd,.int .i64 xe.lv,.int .i64 xe.nd,.slice xe.da xe.dn xe.dc,.string xe.tg] 75 (0,0)):=by rw [hW3];exact heap_alloc_new w2 _
 have hz3:W3.heap[w.heap.size]?=some (.cells #[.int .i64 v.ep,.bool v.th,.int .i64 v.kd,.int .i64 v.lv,.int .i64 v.nd,.slice v.da v.dn v.dc,.string v.tg] 75 (0,0)):=(hb3.block _ (by have:=lt_of_some HZ1.out;have:=hk2.size;omega)).trans (hk2.blk HZ1.out (by unfold LS;decide));have d3:=d2.later hb3;have hk3:Kept LS B w W3:=(Kept.of_below HB1.out LS B).trans (hk2.trans (Kept.of_below hb3 LS B));have o0:=Jaa hx3 0;have e0:=Jaa hz3 0;have e1:=Jaa hz3 1;have e2:=Jaa hz3 2;have e3:=Jaa hz3 3;have e4:=Jaa hz3 4;have e5:=Jaa hz3 5;have e6:=Jaa hz3 6;have HD3:=hid d3;have HK3:=hid hk3;have HZ3:=hid hz3;have HW3:=hid hW3;clear hl2 d2 hk2 hb3 hx3 hz3 d3 hk3 hW3 c0;go_upto_region 3 with fail
 rw [←HW3.out];go_wp2_with fail
 go_ret
 exact⟨rfl,HF.out _ ⟨bo',HD3.out⟩ HK3.out⟩
theorem keep_yes (B q h i:Nat) (c:Cc) (C:List Cc) (x y:Int) (v:Ent) (dir s k:ByteArray) (w:World) (d:Dc w B q h C x y) (hB:B≤w.heap.size) (hk:k=childB dir s) (h1:0<C.length) (h2:C.length≤256) (hki:i=ofF k C.length) (hi:C[i]?=some c) (hlen:c.L.length≤900) (hd:dir.size≤1000000) (hs:s.size≤1000000) (lo:Nat) (P:List (Int×Int)) (hP:P.length≤1000) (hsp:Sp w lo v.da v.dn P)
  (hno:lrd.gotB c.L k=false∨(lrd.gotI c.L k).ep≤v.ep):
  Calls prog 52 #[.pointer (some ⟨q,0,none⟩),.string dir,.string s,.agg #[.int .i64 v.ep,.bool v.th,.int .i64 v.kd,.int .i64 v.lv,.int .i64 v.nd,.slice v.da v.dn v.dc,.string v.tg]] w fun e w'=>e= .returned (.bool true)∧∃(A:Option Addr) (c':Nat),Sp w' w.heap.size A v.dn P∧(∃bo',Dc w' B q h (C.set i ⟨c.g,bo',c.r,putL c.L c.r k (moved v A c')⟩) x y)∧Kept DS B w w':=by
 obtain⟨xe,hxe⟩:=words.nm (lrd.gotI c.L k);obtain⟨gb,hgb⟩:=words.nm (lrd.gotB c.L k);rw [←hxe,←hgb] at hno;obtain⟨W1,hW1⟩:=words.nm (w.alloc (.cells #[.int .i64 v.ep,.bool v.th,.int .i64 v.kd,.int .i64 v.lv,.int .i64 v.nd,.slice v.da v.dn v.dc,.string v.tg] 75));have hb1:=words.b1 hW1;have hz1:W1.heap[w.heap.size]?=some (.cells #[.int .i64 v.ep,.bool v.th,.int .i64 v.kd,.int .i64 v.lv,.int .i64 v.nd,.slice v.da v.dn v.dc,.string v.tg] 75 (0,0)):=by rw [hW1];exact heap_alloc_new w _
 have d1:=d.later hb1;have HCh:=hid (fun w=>Jbm dir s w (by omega) (by omega));rw [←hk] at HCh;have hks:k.size≤9223372036854775807:=by have:=Jbn dir s;rw [hk];omega
 have hB1:B≤W1.heap.size:=Nat.le_trans hB hb1.size;have HG:Hid (Calls prog 90 #[.pointer (some ⟨h,0,none⟩),.string k] W1 fun e w'=>e= .returned (.tuple #[.agg #[.int .i64 xe.ep,.bool xe.th,.int .i64 xe.kd,.int .i64 xe.lv,.int .i64 xe.nd,.slice xe.da xe.dn xe.dc,.string xe.tg],.bool gb])∧lrd.Left W1 B c.g c.r c.bo (getL c.L k) w'):=hid (by
   have:=Jbj B h c.g (gsOf C) c.bo c.r c.L k W1 d1.shd (by rw [gs_len];exact h1) (by rw [gs_len];exact h2) hks (by rw [gs_len,←hki];exact Jfy hi) (d1.fam.lru i c hi) (d1.fam.ok i c hi) (by omega);unfold lrd.Got at this;rw [←hxe,←hgb] at this;exact this)
 have HLF:Hid (∀w2:World,lrd.Left W1 B c.g c.r c.bo (getL c.L k) w2→(∃bo',Dc w2 B q h (C.set i ⟨c.g,bo',c.r,getL c.L k⟩) x y)∧Kept LS B W1 w2):=hid fun w2 h2=>d1.left hi h2 ((d.fam.ok i c hi).get k);have c0:=Jaa d1.blk 0;unfold ptrC at c0;have HZ1:=hid hz1;have HB1:=hid hb1;have HBw:Hid (B≤w.heap.size):=hid hB;have HW1:=hid hW1;have HSP:=hid hsp;have HP:=hid hP;have hset:∀(bo':Option Nat) (L:List (ByteArray×Ent)),(C.set i ⟨c.g,bo',c.r,L⟩)[i]?=some ⟨c.g,bo',c.r,L⟩:=fun bo' L=>by rw [List.getElem?_set,if_pos rfl,if_pos (List.getElem?_eq_some_iff.1 hi).1]
 have HPut:Hid (∀(bo':Option Nat) (A:Option Addr) (c':Nat) (W3 w4:World),Dc W3 B q h (C.set i ⟨c.g,bo',c.r,getL c.L k⟩) x y→B≤W3.heap.size→Below W3.heap.size W3 w4→Calls prog 92 #[.pointer (some ⟨h,0,none⟩),.string k,.agg #[.int .i64 v.ep,.bool v.th,.int .i64 v.kd,.int .i64 v.lv,.int .i64 v.nd,.slice A v.dn c',.string v.tg]] w4 fun e w'=>e= .returned (.tuple #[.string (goneK (getL c.L k) c.r k (⟨#[]⟩:ByteArray)),.bool (goneB (getL c.L k) c.r k)])∧lrd.Left w4 B c.g c.r bo' (putL (getL c.L k) c.r k (moved v A c')) w'):=hid fun bo' A c' W3 w4 d3 hB3 hb4=>by
  have d4:=d3.later hb4;have hl:(C.set i ⟨c.g,bo',c.r,getL c.L k⟩).length=C.length:=List.length_set;exact Jhm B h c.g (gsOf (C.set i ⟨c.g,bo',c.r,getL c.L k⟩)) bo' c.r (getL c.L k) k (moved v A c') w4 d4.shd (by rw [gs_len,hl];exact h1) (by rw [gs_len,hl];exact h2) hks (by rw [gs_len,hl,←hki];exact Jfy (c:=⟨c.g,bo',c.r,getL c.L k⟩) (hset bo' _)) (d4.fam.lru i _ (hset bo' _)) (d4.fam.ok i _ (hset bo' _)) (by show (getL c.L k).length≤900;rw [Jg4 (d.fam.ok i c hi)];exact hlen) (Nat.le_trans hB3 hb4.size)
 have HEnd:Hid (∀(bo':Option Nat) (A:Option Addr) (c':Nat) (W3 w4 w5:World),Dc W3 B q h (C.set i ⟨c.g,bo',c.r,getL c.L k⟩) x y→Kept LS B w W3→W3.heap[w.heap.size]?=some (.cells #[.int .i64 v.ep,.bool v.th,.int .i64 v.kd,.int .i64 v.lv,.int .i64 v.nd,.slice v.da v.dn v.dc,.string v.tg] 75 (0,0))→Below W3.heap.size W3 w4→lrd.Left w4 B c.g c.r bo' (putL (getL c.L k) c.r k (moved v A c')) w5→Sp w4 W3.heap.size A v.dn P→(w5.cell? ⟨q,0,none⟩=some (.pointer (some ⟨h,0,none⟩))∧w5.cell? ⟨w.heap.size,0,none⟩=some (.int .i64 v.ep)∧w5.cell? ⟨w.heap.size,1,none⟩=some (.bool v.th)∧w5.cell? ⟨w.heap.size,2,none⟩=some (.int .i64 v.kd)∧w5.cell? ⟨w.heap.size,3,none⟩=some (.int .i64 v.lv)∧w5.cell? ⟨w.heap.size,4,none⟩=some (.int .i64 v.nd)∧w5.cell? ⟨w.heap.size,5,none⟩=some (.slice v.da v.dn v.dc)∧w5.cell? ⟨w.heap.size,6,none⟩=some (.string v.tg))∧Sp w5 w.heap.size A v.dn P∧(∃bo',Dc w5 B q h (C.set i ⟨c.g,bo',c.r,putL c.L c.r k (moved v A c')⟩) x y)∧Kept DS B w w5):=hid fun bo' A c' W3 w4 w5 d3 hk3 hz3 hb4 hl hs4=>by
  have d4:=d3.later hb4;obtain⟨⟨bo5,d5⟩,hk5⟩:=d4.left (hset bo' _) hl ((d4.fam.ok i _ (hset bo' _)).put k _);have hk35:Kept LS B w w5:=hk3.trans ((Kept.of_below hb4 LS B).trans hk5);have hz5:w5.heap[w.heap.size]?=some (.cells #[.int .i64 v.ep,.bool v.th,.int .i64 v.kd,.int .i64 v.lv,.int .i64 v.nd,.slice v.da v.dn v.dc,.string v.tg] 75 (0,0)):=((Kept.of_below hb4 LS B).trans hk5).blk (show W3.heap[w.heap.size]?=some (.cells #[.int .i64 v.ep,.bool v.th,.int .i64 v.kd,.int .i64 v.lv,.int .i64 v.nd,.slice v.da v.dn v.dc,.string v.tg] 75 (0,0)) from hz3) (by unfold LS;decide);rw [List.set_set,Jhw] at d5;exact⟨⟨Jaa d5.blk 0,Jaa hz5 0,Jaa hz5 1,Jaa hz5 2,Jaa hz5 3,Jaa hz5 4,Jaa hz5 5,Jaa hz5 6⟩,(hs4.kept hk5 (by unfold LS;decide)).mono hk3.size,⟨bo5,d5⟩,keptWider hk35 fun _=>LS.ds⟩
 clear hz1 hb1 hW1 hk hki hd hs hks hxe hgb d d1 hi hlen h1 h2 hB hB1 hsp hP hset;rcases hgb:gb with _ |_
 ·clear hno
  subst hgb;go_enter func52,ntmps52
  go_upto_region 1 with fail
  rw [←HW1.out];go_wp2_with fail
  refine (HCh.out _).mono ?_;rintro en vch ⟨rfl,rfl⟩;go_wp2_with fail
  refine HG.out.mono ?_;rintro en w2 ⟨rfl,hl2⟩;obtain⟨⟨bo',d2⟩,hk2⟩:=HLF.out w2 hl2;obtain⟨W3,hW3⟩:=words.nm (w2.alloc (.cells #[.int .i64 xe.ep,.bool xe.th,.int .i64 xe.kd,.int .i64 xe.lv,.int .i64 xe.nd,.slice xe.da xe.dn xe.dc,.string xe.tg] 75));have hb3:Below w2.heap.size w2 W3:=words.b1 hW3;have hx3:W3.heap[w2.heap.size]?=some (.cells #[.int .i64 xe.ep,.bool xe.th,.int .i64 xe.kd,.int .i64 xe.lv,.int .i64 xe.nd,.slice xe.da xe.dn xe.dc,.string xe.tg] 75 (0,0)):=by rw [hW3];exact heap_alloc_new w2 _
  have hz3:W3.heap[w.heap.size]?=some (.cells #[.int .i64 v.ep,.bool v.th,.int .i64 v.kd,.int .i64 v.lv,.int .i64 v.nd,.slice v.da v.dn v.dc,.string v.tg] 75 (0,0)):=(hb3.block _ (by have:=lt_of_some HZ1.out;have:=hk2.size;omega)).trans (hk2.blk HZ1.out (by unfold LS;decide));have d3:=d2.later hb3;have hk3:Kept LS B w W3:=(Kept.of_below HB1.out LS B).trans (hk2.trans (Kept.of_below hb3 LS B));have o0:=Jaa hx3 0;have e0:=Jaa hz3 0;have e1:=Jaa hz3 1;have e2:=Jaa hz3 2;have e3:=Jaa hz3 3;have e4:=Jaa hz3 4;have e5:=Jaa hz3 5;have e6:=Jaa hz3 6;have HD3:=hid d3;have HK3:=hid hk3;have HZ3:=hid hz3;have HW3:=hid hW3;clear hl2 d2 hk2 hb3 hx3 hz3 d3 hk3 hW3 c0;go_upto_region 3 with fail
  rw [←HW3.out];have HSS:Hid (∀w':World,Below W3.heap.size W3 w'→(w'.cell? ⟨q,0,none⟩=some (.pointer (some ⟨h,0,none⟩))∧w'.cell? ⟨w.heap.size,0,none⟩=some (.int .i64 v.ep)∧w'.cell? ⟨w.heap.size,1,none⟩=some (.bool v.th)∧w'.cell? ⟨w.heap.size,2,none⟩=some (.int .i64 v.kd)∧w'.cell? ⟨w.heap.size,3,none⟩=some (.int .i64 v.lv)∧w'.cell? ⟨w.heap.size,4,none⟩=some (.int .i64 v.nd)∧w'.cell? ⟨w.heap.size,5,none⟩=some (.slice v.da v.dn v.dc)∧w'.cell? ⟨w.heap.size,6,none⟩=some (.string v.tg))):=hid fun w' hb=>by
   have hx:=(hb.block _ (lt_of_some HZ3.out)).trans HZ3.out;exact⟨Jaa (HD3.out.later hb).blk 0,Jaa hx 0,Jaa hx 1,Jaa hx 2,Jaa hx 3,Jaa hx 4,Jaa hx 5,Jaa hx 6⟩
  have HAP:=hid (Jf8 lo v P W3.drew (HSP.out.kept HK3.out.drew (by unfold LS;decide)) HP.out);have HBD:Hid (Below W3.heap.size W3 W3.drew):=hid (Below.refl _ _).drew;have HPU:=hid (fun (A:Option Addr) (c':Nat) (w4:World) (hb:Below W3.heap.size W3 w4)=>(HPut.out bo' A c' W3 w4 HD3.out (Nat.le_trans HBw.out HK3.out.size) hb));have HFin:=hid (fun (A:Option Addr) (c':Nat) (w4 w5:World) (hb:Below W3.heap.size W3 w4) (hl:lrd.Left w4 B c.g c.r bo' (putL (getL c.L k) c.r k (moved v A c')) w5) (hs:Sp w4 W3.heap.size A v.dn P)=>HEnd.out bo' A c' W3 w4 w5 HD3.out HK3.out HZ3.out hb hl hs);go_upto_region 5 with fail
  clear o0 e0 e1 e2 e3 e4 e5 e6;refine wp_region_held_drew (S:=fun w'=>(w'.cell? ⟨q,0,none⟩=some (.pointer (some ⟨h,0,none⟩))∧w'.cell? ⟨w.heap.size,0,none⟩=some (.int .i64 v.ep)∧w'.cell? ⟨w.heap.size,1,none⟩=some (.bool v.th)∧w'.cell? ⟨w.heap.size,2,none⟩=some (.int .i64 v.kd)∧w'.cell? ⟨w.heap.size,3,none⟩=some (.int .i64 v.lv)∧w'.cell? ⟨w.heap.size,4,none⟩=some (.int .i64 v.nd)∧w'.cell? ⟨w.heap.size,5,none⟩=some (.slice v.da v.dn v.dc)∧w'.cell? ⟨w.heap.size,6,none⟩=some (.string v.tg))) (by kernel_rfl) (HSS.out _ HBD.out) (fun hHeld=>?_);refine words.tk 0 32 (v:=?_) ?_ ?_
  rotate_left 1
  ·intro _ h;(try dsimp only at h);go_simp;(try with_reducible rfl)
  try simp only [words.pt]
  refine words.tk 1 33 (v:=?_) ?_ ?_
  rotate_left 1
  ·intro _ h;(try dsimp only at h);go_simp;(try with_reducible rfl)
  try simp only [words.pt]
  refine words.tk 2 34 (v:=?_) ?_ ?_
  rotate_left 1
  ·intro _ h;(try dsimp only at h);go_simp;(try with_reducible rfl)
  try simp only [words.pt]
  refine words.tk 3 35 (v:=?_) ?_ ?_
  rotate_left 1
  ·intro _ h;(try dsimp only at h);go_simp;(try with_reducible rfl)
  try simp only [words.pt]
  refine words.tk 4 36 (v:=?_) ?_ ?_
  rotate_left 1
  ·intro _ h;(try dsimp only at h);go_simp;(try with_reducible rfl)
  try simp only [words.pt]
  refine words.tk 5 37 (v:=?_) ?_ ?_
  rotate_left 1
  ·intro _ h;(try dsimp only at h);go_simp;(try with_reducible rfl)
  try simp only [words.pt]
  refine wpAnyH_ready (rs:=[6]) (by kernel_rfl) (by simp) (.cons rfl (fun K hK=>?_) .nil);go_simp
  go_at_call 91
  refine (HAP.out).mono ?_;rintro en w4 ⟨⟨A,c',rfl,hsp4⟩,hb4⟩;have HB4:=hid (HBD.out.trans hb4);have HS4:=hid hsp4;clear hb4 hsp4;clear hHeld;refine hK.out _ _ (HSS.out _ HB4.out) (fun hHeld=>?_);clear hK;refine wpAnyH_ready (rs:=[7]) (by kernel_rfl) (by simp) (.cons rfl (fun K hK=>?_) .nil);go_simp
  go_at_call 92
  refine (HPU.out A c' w4 HB4.out).mono ?_;rintro en w5 ⟨rfl,hl5⟩;have HE:=hid (HFin.out A c' w4 w5 HB4.out hl5 HS4.out);clear hl5;clear hHeld;refine hK.out _ _ (HE.out.1) (fun hHeld=>?_);clear hK;refine wpAnyH_done (by kernel_rfl) ?_ _;clear hHeld;go_wp2_with fail
  go_ret
  exact⟨rfl,A,c',HE.out.2⟩
 ·have hle:¬v.ep<xe.ep:=by
   rcases hno with hno |hno
   ·rw [hgb] at hno;cases hno
   ·omega
  clear hno;subst hgb;go_enter func52,ntmps52
  go_upto_region 1 with fail
  rw [←HW1.out];go_wp2_with fail
  refine (HCh.out _).mono ?_;rintro en vch ⟨rfl,rfl⟩;go_wp2_with fail
  refine HG.out.mono ?_;rintro en w2 ⟨rfl,hl2⟩;obtain⟨⟨bo',d2⟩,hk2⟩:=HLF.out w2 hl2;obtain⟨W3,hW3⟩:=words.nm (w2.alloc (.cells #[.int .i64 xe.ep,.bool xe.th,.int .i64 xe.kd,.int .i64 xe.lv,.int .i64 xe.nd,.slice xe.da xe.dn xe.dc,.string xe.tg] 75));have hb3:Below w2.heap.size w2 W3:=words.b1 hW3;have hx3:W3.heap[w2.heap.size]?=some (.cells #[.int .i64 xe.ep,.bool xe.th,.int .i64 xe.kd,.int .i64 xe.lv,.int .i64 xe.nd,.slice xe.da xe.dn xe.dc,.string xe.tg] 75 (0,0)):=by rw [hW3];exact heap_alloc_new w2 _
  have hz3:W3.heap[w.heap.size]?=some (.cells #[.int .i64 v.ep,.bool v.th,.int .i64 v.kd,.int .i64 v.lv,.int .i64 v.nd,.slice v.da v.dn v.dc,.string v.tg] 75 (0,0)):=(hb3.block _ (by have:=lt_of_some HZ1.out;have:=hk2.size;omega)).trans (hk2.blk HZ1.out (by unfold LS;decide));have d3:=d2.later hb3;have hk3:Kept LS B w W3:=(Kept.of_below HB1.out LS B).trans (hk2.trans (Kept.of_below hb3 LS B));have o0:=Jaa hx3 0;have e0:=Jaa hz3 0;have e1:=Jaa hz3 1;have e2:=Jaa hz3 2;have e3:=Jaa hz3 3;have e4:=Jaa hz3 4;have e5:=Jaa hz3 5;have e6:=Jaa hz3 6;have HD3:=hid d3;have HK3:=hid hk3;have HZ3:=hid hz3;have HW3:=hid hW3;clear hl2 d2 hk2 hb3 hx3 hz3 d3 hk3 hW3 c0;go_upto_region 3 with fail
  rw [←HW3.out];have HSS:Hid (∀w':World,Below W3.heap.size W3 w'→(w'.cell? ⟨q,0,none⟩=some (.pointer (some ⟨h,0,none⟩))∧w'.cell? ⟨w.heap.size,0,none⟩=some (.int .i64 v.ep)∧w'.cell? ⟨w.heap.size,1,none⟩=some (.bool v.th)∧w'.cell? ⟨w.heap.size,2,none⟩=some (.int .i64 v.kd)∧w'.cell? ⟨w.heap.size,3,none⟩=some (.int .i64 v.lv)∧w'.cell? ⟨w.heap.size,4,none⟩=some (.int .i64 v.nd)∧w'.cell? ⟨w.heap.size,5,none⟩=some (.slice v.da v.dn v.dc)∧w'.cell? ⟨w.heap.size,6,none⟩=some (.string v.tg))):=hid fun w' hb=>by
   have hx:=(hb.block _ (lt_of_some HZ3.out)).trans HZ3.out;exact⟨Jaa (HD3.out.later hb).blk 0,Jaa hx 0,Jaa hx 1,Jaa hx 2,Jaa hx 3,Jaa hx 4,Jaa hx 5,Jaa hx 6⟩
  have HAP:=hid (Jf8 lo v P W3.drew (HSP.out.kept HK3.out.drew (by unfold LS;decide)) HP.out);have HBD:Hid (Below W3.heap.size W3 W3.drew):=hid (Below.refl _ _).drew;have HPU:=hid (fun (A:Option Addr) (c':Nat) (w4:World) (hb:Below W3.heap.size W3 w4)=>(HPut.out bo' A c' W3 w4 HD3.out (Nat.le_trans HBw.out HK3.out.size) hb));have HFin:=hid (fun (A:Option Addr) (c':Nat) (w4 w5:World) (hb:Below W3.heap.size W3 w4) (hl:lrd.Left w4 B c.g c.r bo' (putL (getL c.L k) c.r k (moved v A c')) w5) (hs:Sp w4 W3.heap.size A v.dn P)=>HEnd.out bo' A c' W3 w4 w5 HD3.out HK3.out HZ3.out hb hl hs);go_upto_region 5 with fail
  clear o0 e0 e1 e2 e3 e4 e5 e6;refine wp_region_held_drew (S:=fun w'=>(w'.cell? ⟨q,0,none⟩=some (.pointer (some ⟨h,0,none⟩))∧w'.cell? ⟨w.heap.size,0,none⟩=some (.int .i64 v.ep)∧w'.cell? ⟨w.heap.size,1,none⟩=some (.bool v.th)∧w'.cell? ⟨w.heap.size,2,none⟩=some (.int .i64 v.kd)∧w'.cell? ⟨w.heap.size,3,none⟩=some (.int .i64 v.lv)∧w'.cell? ⟨w.heap.size,4,none⟩=some (.int .i64 v.nd)∧w'.cell? ⟨w.heap.size,5,none⟩=some (.slice v.da v.dn v.dc)∧w'.cell? ⟨w.heap.size,6,none⟩=some (.string v.tg))) (by kernel_rfl) (HSS.out _ HBD.out) (fun hHeld=>?_);refine words.tk 0 32 (v:=?_) ?_ ?_
  rotate_left 1
  ·intro _ h;(try dsimp only at h);go_simp;(try with_reducible rfl)
  try simp only [words.pt]
  refine words.tk 1 33 (v:=?_) ?_ ?_
  rotate_left 1
  ·intro _ h;(try dsimp only at h);go_simp;(try with_reducible rfl)
  try simp only [words.pt]
  refine words.tk 2 34 (v:=?_) ?_ ?_
  rotate_left 1
  ·intro _ h;(try dsimp only at h);go_simp;(try with_reducible rfl)
  try simp only [words.pt]
  refine words.tk 3 35 (v:=?_) ?_ ?_
  rotate_left 1
  ·intro _ h;(try dsimp only at h);go_simp;(try with_reducible rfl)
  try simp only [words.pt]
  refine words.tk 4 36 (v:=?_) ?_ ?_
  rotate_left 1
  ·intro _ h;(try dsimp only at h);go_simp;(try with_reducible rfl)
  try simp only [words.pt]
  refine words.tk 5 37 (v:=?_) ?_ ?_
  rotate_left 1
  ·intro _ h;(try dsimp only at h);go_simp;(try with_reducible rfl)
  try simp only [words.pt]
  refine wpAnyH_ready (rs:=[6]) (by kernel_rfl) (by simp) (.cons rfl (fun K hK=>?_) .nil);go_simp
  go_at_call 91
  refine (HAP.out).mono ?_;rintro en w4 ⟨⟨A,c',rfl,hsp4⟩,hb4⟩;have HB4:=hid (HBD.out.trans hb4);have HS4:=hid hsp4;clear hb4 hsp4;clear hHeld;refine hK.out _ _ (HSS.out _ HB4.out) (fun hHeld=>?_);clear hK;refine wpAnyH_ready (rs:=[7]) (by kernel_rfl) (by simp) (.cons rfl (fun K hK=>?_) .nil);go_simp
  go_at_call 92
  refine (HPU.out A c' w4 HB4.out).mono ?_;rintro en w5 ⟨rfl,hl5⟩;have HE:=hid (HFin.out A c' w4 w5 HB4.out hl5 HS4.out);clear hl5;clear hHeld;refine hK.out _ _ (HE.out.1) (fun hHeld=>?_);clear hK;refine wpAnyH_done (by kernel_rfl) ?_ _;clear hHeld;go_wp2_with fail
  go_ret
  exact⟨rfl,A,c',HE.out.2⟩
end Go.Proofs.YtkjpgheealfedaaGreatDoor.dca
