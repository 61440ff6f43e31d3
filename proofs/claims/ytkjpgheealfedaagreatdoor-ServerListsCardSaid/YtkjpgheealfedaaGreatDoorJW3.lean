import Derived.Test.YtkjpgheealfedaaGreatDoorJW2
import Derived.BigQuiet
import Derived.Lib.Small
import Derived.Deep.Cut
import Derived.Deep.RegionLaw
import Derived.StillTailTactics
set_option maxHeartbeats 6400000
set_option maxRecDepth 100000
open Go.Lib (hid)
open Go.Proofs.Tryz
namespace Go.Proofs.YtkjpgheealfedaaGreatDoor.heap
open Go.RowKit words

theorem Jac {a b:Bool} (h:a=b):Ending.returned (.bool a)= .returned (.bool b):=by rw [h]
theorem Jea {k:IntKind} {a b:Int} (h:a=b):Ending.returned (.int k a)= .returned (.int k b):=by rw [h]
theorem Jf1 (x:Int) (w:World):Calls prog 176 #[.int .i64 x] w fun e w'=>e= .returned (.bool false)∧w=w':=by
 have g:(x !=x)=false:=by simp
 go_enter func176,ntmps176
 go_wp2_with fail
 go_ret
 exact⟨rfl,rfl⟩
theorem Jjm (x y:Int) (w:World):Calls prog 162 #[.int .i64 x,.int .i64 y] w fun e w'=>e= .returned (.int .i64 (Lib.compareInt x y))∧w=w':=by
 by_cases h1:x<y
 ·have HF:=hid (show Lib.compareInt x y= -1 by unfold Lib.compareInt;rw [if_pos h1])
  go_enter func162,ntmps162
  go_wp2_with (go_at_call 176;refine (Jf1 _ _).mono ?_;rintro e w' ⟨rfl,rfl⟩)
  go_ret
  exact⟨Jea HF.out.symm,rfl⟩
 ·by_cases h2:y<x
  ·have HF:=hid (show Lib.compareInt x y=1 by unfold Lib.compareInt;rw [if_neg h1,if_pos h2])
   go_enter func162,ntmps162
   go_wp2_with (go_at_call 176;refine (Jf1 _ _).mono ?_;rintro e w' ⟨rfl,rfl⟩)
   go_ret
   exact⟨Jea HF.out.symm,rfl⟩
  ·have HF:=hid (show Lib.compareInt x y=0 by unfold Lib.compareInt;rw [if_neg h1,if_neg h2])
   go_enter func162,ntmps162
   go_wp2_with (go_at_call 176;refine (Jf1 _ _).mono ?_;rintro e w' ⟨rfl,rfl⟩)
   go_ret
   exact⟨Jea HF.out.symm,rfl⟩
theorem Jjz (a b:ByteArray) (w:World):Calls prog 175 #[.string a,.string b] w fun e w'=>e= .returned (.int .i64 (Lib.compareBytes a.data.toList b.data.toList))∧w=w':=by
 go_enter func175,ntmps175
 go_wp2_with fail
 rw [run_callFunc_extern func184 (by kernel_rfl) (by kernel_rfl) (by kernel_rfl) (e:=Extern.BytealgCompare.compare) (by kernel_rfl),Lib.run_compareString];simp only [Result.andThen];rw [Oper.upon_value];go_wp2_with fail
 go_ret
 exact⟨rfl,rfl⟩
theorem Jix (a b:ByteArray) (w:World):Calls prog 161 #[.string a,.string b] w fun e w'=>e= .returned (.int .i64 (Lib.compareBytes a.data.toList b.data.toList))∧w=w':=by
 go_enter func161,ntmps161
 go_wp2_with fail
 refine (Jjz _ _ _).mono ?_;rintro e w' ⟨rfl,rfl⟩;go_wp2_with fail
 go_ret
 exact⟨rfl,rfl⟩
def orInt (x y:Int):Int:=if x=0 then y else x
theorem Jtg (b c:Nat) (x y:Int) (w:World) (h0:w.cell? ⟨b,0,none⟩=some (.int .i64 x)) (h1:w.cell? ⟨b,1,none⟩=some (.int .i64 y)):
  Calls prog 160 #[.slice (some ⟨b,0,none⟩) 2 c] w fun e w'=>e= .returned (.int .i64 (orInt x y))∧w=w':=by
 have HC:=hid (And.intro h0 h1);clear h0 h1;go_enter func160,ntmps160
 go_wp2_with fail
 go_loop [8] (fun i=>∃k:Nat,i= .int .i64 (k:Int)∧k≤2∧(1≤k→x=0)∧(2≤k→y=0)) (fun i=>2 - (intOf i).toNat)
 case atStart=>exact⟨0,rfl,by omega,by omega,by omega⟩
 case round=>
  obtain⟨k,rfl,hk,hx,hy⟩:=hrel;obtain⟨c0,c1⟩:=HC.out;rcases k with _ |_ |k
  ·clear c1
   have HX:=hid hx;have HY:=hid hy;clear hx hy;by_cases e:x=0
   ·have g:(x !=0)=false:=by simp [e]
    have HE:=hid e;clear e;go_wp2_with fail
    go_round
    case rel=>exact⟨1,by go_num,by omega,fun _=>HE.out,by omega⟩
    case measure=>simp [intOf]
   ·have g:(x !=0)=true:=by simp [e]
    have HE:=hid (show x=orInt x y by unfold orInt;rw [if_neg e]);clear e;go_wp2_with fail
    go_ret
    exact⟨Jea HE.out,rfl⟩
  ·clear c0
   have HX:=hid (hx (by omega));have HY:=hid hy;clear hx hy;by_cases e:y=0
   ·have g:(y !=0)=false:=by simp [e]
    have HE:=hid e;clear e;go_wp2_with fail
    go_round
    case rel=>exact⟨2,by go_num,by omega,fun _=>HX.out,fun _=>HE.out⟩
    case measure=>simp [intOf]
   ·have g:(y !=0)=true:=by simp [e]
    have HE:=hid (show y=orInt x y by unfold orInt;rw [if_pos HX.out]);clear e;go_wp2_with fail
    go_ret
    exact⟨Jea HE.out,rfl⟩
  ·obtain rfl:k=0:=by omega
   have HE:=hid (show (0:Int)=orInt x y by unfold orInt;rw [if_pos (hx (by omega)),hy (by omega)]);clear hx hy c0 c1;go_wp2_with fail
   go_ret
   exact⟨Jea HE.out,rfl⟩
theorem Jrr (a b:Hd):decide (orInt (Lib.compareBytes a.s.data.toList b.s.data.toList) (Lib.compareInt (a.r:Int) (b.r:Int))<0)=ltHB a b:=by
 have h:=Jey a.s.data.toList b.s.data.toList;unfold ltHB ltB orInt;rw [ByteArray.toList_eq,ByteArray.toList_eq];by_cases h0:a.s.data.toList=b.s.data.toList
 ·rw [if_pos (h.2.2 h0),h0,Jfq,Bool.false_or,beq_self_eq_true,Bool.true_and]
  unfold Lib.compareInt;by_cases h1:(a.r:Int)<b.r
  ·rw [if_pos h1,decide_eq_true (show a.r<b.r by omega)];rfl
  ·rw [if_neg h1,decide_eq_false (show ¬a.r<b.r by omega)]
   split<;>rfl
 ·rw [if_neg (fun hc=>h0 (h.2.1 hc)),beq_eq_false_iff_ne.2 h0,Bool.false_and,Bool.or_false]
  rw [Bool.eq_iff_iff,decide_eq_true_eq];exact h.1

def hdV (h:Hd):Value:= .agg #[.string h.s,.int .i64 (h.r:Int),.slice h.A h.t.length h.c]
theorem Jav (a b:Hd) (w:World):Calls prog 136 #[hdV a,hdV b] w fun e w'=>e= .returned (.bool (ltHB a b))∧Below w.heap.size w w':=by
 obtain⟨Wa,hWa⟩:=words.nm (w.alloc (.cells #[.string a.s,.int .i64 (a.r:Int),.slice a.A a.t.length a.c] 243));obtain⟨W1,hW1⟩:=words.nm (Wa.alloc (.cells #[.string b.s,.int .i64 (b.r:Int),.slice b.A b.t.length b.c] 243));have hz:Wa.heap.size=w.heap.size+1:=by rw [hWa];simp
 have hz1:W1.heap.size=w.heap.size+2:=by rw [hW1];simp [hz]
 have hba:=words.b1 hWa;have hb1:Below w.heap.size w W1:=by rw [hW1];exact hba.alloc hba.size _
 have ha1:W1.heap[w.heap.size]?=some (.cells #[.string a.s,.int .i64 (a.r:Int),.slice a.A a.t.length a.c] 243 (0,0)):=by
  rw [hW1];refine (Below.heap_alloc Wa _ _ (by omega)).trans ?_;rw [hWa];exact heap_alloc_new w _
 have hc1:W1.heap[w.heap.size+1]?=some (.cells #[.string b.s,.int .i64 (b.r:Int),.slice b.A b.t.length b.c] 243 (0,0)):=by rw [hW1,←hz];exact heap_alloc_new Wa _
 have a0:W1.cell? ⟨w.heap.size,0,none⟩=some (.string a.s):=Jaa ha1 0;have a1:W1.cell? ⟨w.heap.size,1,none⟩=some (.int .i64 (a.r:Int)):=Jaa ha1 1;have b0:W1.cell? ⟨w.heap.size+1,0,none⟩=some (.string b.s):=Jaa hc1 0;have b1:W1.cell? ⟨w.heap.size+1,1,none⟩=some (.int .i64 (b.r:Int)):=Jaa hc1 1;have HF:=hid (Jrr a b);rw [hWa] at hW1;have HW1:=hid hW1;have HB1:=hid hb1;clear ha1 hc1 hba hb1 hW1 hWa hz;unfold hdV;go_enter func136,ntmps136
 go_upto_region 1 with fail
 rw [←HW1.out];have hor:∀(x y:Int) (W:World),W.heap.size=w.heap.size+2→Calls prog 160 #[.slice (some ⟨w.heap.size+2,0,none⟩) 2 2] (W.alloc (.cells #[.int .i64 x,.int .i64 y] 3)).drew fun e w'=>e= .returned (.int .i64 (orInt x y))∧(W.alloc (.cells #[.int .i64 x,.int .i64 y] 3)).drew=w':=fun x y W hW=>by
  have h:=heap_alloc_new W (.cells #[.int .i64 x,.int .i64 y] 3);rw [hW] at h;exact Jtg _ _ x y _ (Jaa (w:=(W.alloc (.cells #[.int .i64 x,.int .i64 y] 3)).drew) h 0) (Jaa (w:=(W.alloc (.cells #[.int .i64 x,.int .i64 y] 3)).drew) h 1)
 have HOR:=hid hor;have HZ1:=hid hz1;clear hor;go_region_held3 (fun w'=>w'.cell? ⟨w.heap.size,0,none⟩=some (.string a.s)∧w'.cell? ⟨w.heap.size,1,none⟩=some (.int .i64 (a.r:Int))∧w'.cell? ⟨w.heap.size+1,0,none⟩=some (.string b.s)∧w'.cell? ⟨w.heap.size+1,1,none⟩=some (.int .i64 (b.r:Int)))
  (go_keep)
  (first |(go_at_call 161;refine (Jix _ _ _).mono ?_;rintro e w' ⟨rfl,rfl⟩) |(go_at_call 162;refine (Jjm _ _ _).mono ?_;rintro e w' ⟨rfl,rfl⟩) |(go_at_call 160;refine (HOR.out _ _ _ HZ1.out).mono ?_;rintro e w' ⟨rfl,rfl⟩))
 have HBn:Hid (Below w.heap.size w (W1.alloc (.cells #[.int .i64 (Lib.compareBytes a.s.data.toList b.s.data.toList),.int .i64 (Lib.compareInt (a.r:Int) (b.r:Int))] 3)).drew):=hid ((HB1.out.alloc HB1.out.size _).drew);clear HOR a0 a1 b0 b1;go_wp2_with fail
 go_ret
 exact⟨Jac HF.out,HBn.out⟩

def fnV:Value:= .func (.func 136) #[] #[]
def Heaps (w:World) (B g:Nat) (K:List Hd):Prop:=
 B≤g∧∃v,w.heap[g]?=some (.cells #[v,fnV] 246 (0,0))∧w.ownsRow B 243 3 v K.length (K.flatMap hdCells)
theorem Heaps.later {w w':World} {B g:Nat} {K:List Hd} (h:Heaps w B g K) (hb:Below w.heap.size w w'):Heaps w' B g K:=by
 obtain⟨h1,v,h2,h3⟩:=h;refine⟨h1,v,(hb.block _ (lt_of_some h2)).trans h2,h3.1,?_⟩;rcases h3.2 with h0 |⟨g',cap,cur,hv,hbg,hh,hr⟩
 ·exact .inl h0
 ·exact .inr ⟨g',cap,cur,hv,hbg,(hb.block _ (lt_of_some hh)).trans hh,hr⟩
theorem Heaps.len {w:World} {B g:Nat} {K:List Hd} (h:Heaps w B g K):∃A c,w.cell? ⟨g,0,none⟩=some (.slice A K.length c):=by
 obtain⟨_,v,h2,h3⟩:=h;have hc:w.cell? ⟨g,0,none⟩=some v:=Jaa h2 0;rcases h3.2 with⟨rfl,h0⟩ |⟨g',cap,cur,rfl,_⟩
 ·exact⟨_,_,by rw [hc,h0]⟩
 ·exact⟨_,_,hc⟩
theorem Heaps.cells {w:World} {B g:Nat} {K:List Hd} (h:Heaps w B g K) (h0:0<K.length):
  ∃b c,w.cell? ⟨g,0,none⟩=some (.slice (some ⟨b,0,none⟩) K.length c)∧w.cell? ⟨g,1,none⟩=some fnV∧B≤b∧b<w.heap.size∧b≠g∧K.length≤c∧c≤maxLen∧
   ∀k h,K[k]?=some h→w.cell? ⟨b,k*3,none⟩=some (.string h.s)∧w.cell? ⟨b,k*3+1,none⟩=some (.int .i64 (h.r:Int))∧w.cell? ⟨b,k*3+2,none⟩=some (.slice h.A h.t.length h.c):=by
 obtain⟨_,v,h2,h3⟩:=h;obtain⟨x,hx⟩:∃x,K[0]?=some x:=⟨_,List.getElem?_eq_getElem h0⟩
 obtain⟨b,c,rfl,hb,hl,h4,h5,_⟩:=own_cell h3 (Jhr hx 0 (by omega));refine⟨b,c,Jaa h2 0,Jaa h2 1,hb,hl,fun e=>?_,h4,h5,fun k y hy=>?_⟩
 ·exact Jay h3 h2 (by decide) (by rw [e];rfl)
 ·have hc:∀j u,(hdCells y)[j]?=some u→j<3→w.cell? ⟨b,k*3+j,none⟩=some u:=fun j u hu hj=>by
   obtain⟨b',c',e1,_,_,_,_,h6,_⟩:=own_cell h3 ((Jhr hy j hj).trans hu);injection e1 with e1;injection e1 with e1;injection e1 with e1;subst e1;exact h6
  exact⟨hc 0 _ rfl (by omega),hc 1 _ rfl (by omega),hc 2 _ rfl (by omega)⟩

theorem Je8 (B g:Nat) (K:List Hd) (w:World) (h:Heaps w B g K):Calls prog 138 #[.pointer (some ⟨g,0,none⟩)] w fun e w'=>e= .returned (.int .i64 (K.length:Int))∧w=w':=by
 obtain⟨A,c,hc⟩:=h.len;clear h;go_enter func138,ntmps138
 go_wp2_with fail
 go_ret
 exact⟨rfl,rfl⟩
theorem Jof (B g i j:Nat) (K:List Hd) (x y:Hd) (w:World) (h:Heaps w B g K) (hx:K[i]?=some x) (hy:K[j]?=some y):
  Calls prog 210 #[.pointer (some ⟨g,0,none⟩),.int .i64 (i:Int),.int .i64 (j:Int)] w fun e w'=>e= .returned (.bool (ltHB x y))∧Below w.heap.size w w':=by
 have hi:=(List.getElem?_eq_some_iff.1 hx).1;have hj:=(List.getElem?_eq_some_iff.1 hy).1;obtain⟨b,c,c0,c1,_,_,_,_,_,hc⟩:=h.cells (by omega);obtain⟨x0,x1,x2⟩:=hc i x hx;obtain⟨y0,y1,y2⟩:=hc j y hy;have i0:(0:Int)≤(i:Int):=by omega
 have i1:(i:Int)<(K.length:Int):=by omega
 have j0:(0:Int)≤(j:Int):=by omega
 have j1:(j:Int)<(K.length:Int):=by omega
 have hA:∀W:World,Below w.heap.size w W→Calls prog 136 #[.agg #[.string x.s,.int .i64 (x.r:Int),.slice x.A x.t.length x.c],.agg #[.string y.s,.int .i64 (y.r:Int),.slice y.A y.t.length y.c]] W fun e w'=>e= .returned (.bool (ltHB x y))∧Below w.heap.size w w':=fun W hW=>(Jav x y W).mono fun e w' ⟨h1,h2⟩=>⟨h1,hW.trans (h2.mono hW.size)⟩
 have HA:=hid hA;have HB0:=hid (Below.refl w.heap.size w).drew;unfold fnV at c1;have HS:Hid (∀w':World,Below w.heap.size w w'→(w'.cell? ⟨g,0,none⟩=some (.slice (some ⟨b,0,none⟩) K.length c)∧w'.cell? ⟨g,1,none⟩=some (.func (.func 136) #[] #[])∧
     w'.cell? ⟨b,i*3,none⟩=some (.string x.s)∧w'.cell? ⟨b,i*3+1,none⟩=some (.int .i64 (x.r:Int))∧w'.cell? ⟨b,i*3+2,none⟩=some (.slice x.A x.t.length x.c)∧
     w'.cell? ⟨b,j*3,none⟩=some (.string y.s)∧w'.cell? ⟨b,j*3+1,none⟩=some (.int .i64 (y.r:Int))∧w'.cell? ⟨b,j*3+2,none⟩=some (.slice y.A y.t.length y.c)∧Below w.heap.size w w')):=
   hid fun w' hb'=>⟨(hb'.cell (p:=⟨g,0,none⟩) (World.block_lt_of_cell? w _ c0)).trans c0,(hb'.cell (p:=⟨g,1,none⟩) (World.block_lt_of_cell? w _ c1)).trans c1,
     (hb'.cell (p:=⟨b,i*3,none⟩) (World.block_lt_of_cell? w _ x0)).trans x0,(hb'.cell (p:=⟨b,i*3+1,none⟩) (World.block_lt_of_cell? w _ x1)).trans x1,(hb'.cell (p:=⟨b,i*3+2,none⟩) (World.block_lt_of_cell? w _ x2)).trans x2,
     (hb'.cell (p:=⟨b,j*3,none⟩) (World.block_lt_of_cell? w _ y0)).trans y0,(hb'.cell (p:=⟨b,j*3+1,none⟩) (World.block_lt_of_cell? w _ y1)).trans y1,(hb'.cell (p:=⟨b,j*3+2,none⟩) (World.block_lt_of_cell? w _ y2)).trans y2,hb'⟩
 clear h hc hx hy hA;go_enter func210,ntmps210
 go_wp2_with fail
 go_region_held3 (fun w'=>w'.cell? ⟨g,0,none⟩=some (.slice (some ⟨b,0,none⟩) K.length c)∧w'.cell? ⟨g,1,none⟩=some (.func (.func 136) #[] #[])∧
     w'.cell? ⟨b,i*3,none⟩=some (.string x.s)∧w'.cell? ⟨b,i*3+1,none⟩=some (.int .i64 (x.r:Int))∧w'.cell? ⟨b,i*3+2,none⟩=some (.slice x.A x.t.length x.c)∧
     w'.cell? ⟨b,j*3,none⟩=some (.string y.s)∧w'.cell? ⟨b,j*3+1,none⟩=some (.int .i64 (y.r:Int))∧w'.cell? ⟨b,j*3+2,none⟩=some (.slice y.A y.t.length y.c)∧Below w.heap.size w w')
   (first |exact HS.out _ (by assumption) |exact HS.out _ HB0.out)
   (first |(go_at_call 136;refine (HA.out _ (by first |assumption |exact HB0.out)).mono ?_;rintro e w' ⟨rfl,hb'⟩))
 all_goals
  have HF:=hid hb';clear hb';go_wp2_with fail
  go_ret
  exact⟨rfl,HF.out⟩

def HS (t:TypeId):Prop:=t=246∨t=243
def Done (Q:World→Prop) (e:Ending) (w':World):Prop:=(∃u,e= .returned u)∧Q w'

theorem cell?_setCell_some {w:World} {p q:Addr} {x v:Value} (h:w.cell? q=some v):∃v',(w.setCell p x).cell? q=some v':=by
 by_cases e:p=q
 ·subst e;exact⟨x,World.cell?_setCell_same w p x h⟩
 ·exact⟨v,(World.cell?_setCell_other w p q x e).trans h⟩
theorem Heaps.drew {w:World} {B g:Nat} {K:List Hd} (h:Heaps w B g K):Heaps w.drew B g K:=h
theorem Heaps.put {w:World} {B g b c k:Nat} {K:List Hd} (h:Heaps w B g K) (hc:w.cell? ⟨g,0,none⟩=some (.slice (some ⟨b,0,none⟩) K.length c)) (hbg:b≠g) (hk:k<K.length) (x:Hd):
  Heaps (((w.setCell ⟨b,k*3,none⟩ (.string x.s)).setCell ⟨b,k*3+1,none⟩ (.int .i64 (x.r:Int))).setCell ⟨b,k*3+2,none⟩ (.slice x.A x.t.length x.c)) B g (K.set k x)∧
  Kept HS B w (((w.setCell ⟨b,k*3,none⟩ (.string x.s)).setCell ⟨b,k*3+1,none⟩ (.int .i64 (x.r:Int))).setCell ⟨b,k*3+2,none⟩ (.slice x.A x.t.length x.c)):=by
 obtain⟨h1,v,h2,h3⟩:=h;have hv:v= .slice (some ⟨b,0,none⟩) K.length c:=by
  have e:=(Jaa h2 0).symm.trans hc;exact Option.some.inj e
 subst hv;have hg:∀(W:World) (j:Nat) (u:Value),(W.setCell ⟨b,j,none⟩ u).heap[g]?=W.heap[g]?:=fun W j u=>Below.heap_setCell W ⟨b,j,none⟩ u g (fun e=>hbg e.symm);have o0:=Jge h3 (k*3) (.string x.s);have o1:=Jge o0 (k*3+1) (.int .i64 (x.r:Int));have o2:=Jge o1 (k*3+2) (.slice x.A x.t.length x.c);rw [Jiq x hk] at o2;have hT:∀{W:World} {xs:List Value},W.ownsRow B 243 3 (.slice (some ⟨b,0,none⟩) K.length c) K.length xs→B≤b∧∃cs t f,W.heap[b]?=some (.cells cs t f)∧HS t:=fun {W} {xs} ho=>by
  rcases ho.2 with⟨h0,_⟩ |⟨b',cap,cur,e,hB,hh,_⟩
  ·injection h0 with h0
   cases h0
  ·injection e with e1 _ _
   injection e1 with e1;injection e1 with e1;subst e1;exact⟨hB,_,_,_,hh,.inr rfl⟩
 refine⟨⟨h1,_,(hg _ _ _).trans ((hg _ _ _).trans ((hg _ _ _).trans h2)),?_⟩,?_⟩
 ·rw [List.length_set]
  exact o2
 ·exact (((Kept.refl HS B w).setCell (p:=⟨b,k*3,none⟩) (hT h3).1 (hT h3).2 _).setCell (p:=⟨b,k*3+1,none⟩) (hT o0).1 (hT o0).2 _).setCell (p:=⟨b,k*3+2,none⟩) (hT o1).1 (hT o1).2 _
theorem Kept.cell {S:TypeId→Prop} {B:Nat} {w w':World} (h:Kept S B w w') {a:Addr} {v:Value} (hc:w.cell? a=some v) (hn:∀cs t f,w.heap[a.block]?=some (.cells cs t f)→¬S t):w'.cell? a=some v:=
 (World.cell?_of_block (h.block a.block (World.block_lt_of_cell? w a hc) (.inr hn))).trans hc

theorem Jon {w:World} {B g b c i j:Nat} {K:List Hd} {x y:Hd} (hx:K[i]?=some x) (hy:K[j]?=some y) (h:Heaps w B g K) (hc:w.cell? ⟨g,0,none⟩=some (.slice (some ⟨b,0,none⟩) K.length c)) (hbg:b≠g) (hi:i<K.length) (hj:j<K.length):
  Heaps ((((((w.setCell ⟨b,i*3,none⟩ (.string y.s)).setCell ⟨b,i*3+1,none⟩ (.int .i64 (y.r:Int))).setCell ⟨b,i*3+2,none⟩ (.slice y.A y.t.length y.c)).setCell ⟨b,j*3,none⟩ (.string x.s)).setCell ⟨b,j*3+1,none⟩ (.int .i64 (x.r:Int))).setCell ⟨b,j*3+2,none⟩ (.slice x.A x.t.length x.c)).drew B g (swapL K i j hi hj)∧
  Kept HS B w ((((((w.setCell ⟨b,i*3,none⟩ (.string y.s)).setCell ⟨b,i*3+1,none⟩ (.int .i64 (y.r:Int))).setCell ⟨b,i*3+2,none⟩ (.slice y.A y.t.length y.c)).setCell ⟨b,j*3,none⟩ (.string x.s)).setCell ⟨b,j*3+1,none⟩ (.int .i64 (x.r:Int))).setCell ⟨b,j*3+2,none⟩ (.slice x.A x.t.length x.c)).drew:=by
 obtain⟨hw1,hk1⟩:=h.put hc hbg hi y;have c0':∀(W:World) (k:Nat) (u:Value),(W.setCell ⟨b,k,none⟩ u).cell? ⟨g,0,none⟩=W.cell? ⟨g,0,none⟩:=fun W k u=>World.cell?_of_block (Below.heap_setCell W ⟨b,k,none⟩ u g (fun e=>hbg e.symm));obtain⟨hw2,hk2⟩:=hw1.put (k:=j) (c:=c) (by rw [c0',c0',c0',List.length_set];exact hc) hbg (by rw [List.length_set];exact hj) x;have hxx:K[i]=x:=(List.getElem?_eq_some_iff.1 hx).2;have hyy:K[j]=y:=(List.getElem?_eq_some_iff.1 hy).2;rw [←hxx,←hyy] at hw2;have hs:(K.set i K[j]).set j K[i]=swapL K i j hi hj:=rfl;have hw3:=hw2;rw [hs] at hw3;subst hxx hyy;exact⟨hw3.drew,(hk1.trans hk2).drew⟩
theorem Jn1 (B g i j:Nat) (K:List Hd) (w:World) (h:Heaps w B g K) (hi:i<K.length) (hj:j<K.length):
  Calls prog 213 #[.pointer (some ⟨g,0,none⟩),.int .i64 (i:Int),.int .i64 (j:Int)] w (Done fun w'=>Heaps w' B g (swapL K i j hi hj)∧Kept HS B w w'):=by
 obtain⟨x,hx⟩:∃x,K[i]?=some x:=⟨_,List.getElem?_eq_getElem hi⟩
 obtain⟨y,hy⟩:∃y,K[j]?=some y:=⟨_,List.getElem?_eq_getElem hj⟩
 obtain⟨b,c,c0,c1,_,_,hbg,_,_,hc⟩:=h.cells (by omega);obtain⟨x0,x1,x2⟩:=hc i x hx;obtain⟨y0,y1,y2⟩:=hc j y hy;have i0:(0:Int)≤(i:Int):=by omega
 have i1:(i:Int)<(K.length:Int):=by omega
 have j0:(0:Int)≤(j:Int):=by omega
 have j1:(j:Int)<(K.length:Int):=by omega
 have hfz:∀k,w.frozen? ⟨b,k,none⟩=false:=fun k=>by
  obtain⟨_,v,h2,h3⟩:=h;rcases h3.2 with⟨_,h0⟩ |⟨b',cap,cur,rfl,_,hh,_⟩
  ·omega
  ·have e:=(Jaa h2 0).symm.trans c0
   injection e with e;injection e with e;injection e with e;injection e with e;subst e;exact Jab hh k
 have f0:=hfz (i*3);have f1:=hfz (i*3+1);have f2:=hfz (i*3+2);have f3:=hfz (j*3);have f4:=hfz (j*3+1);have f5:=hfz (j*3+2);have hex:∀(k:Nat) (W:World),(∃v,W.cell? ⟨b,k,none⟩=some v)→∀p u,∃v,(W.setCell p u).cell? ⟨b,k,none⟩=some v:=fun k W hv p u=>by
  obtain⟨v,hv⟩:=hv;exact cell?_setCell_some hv
 obtain⟨W3,hW3⟩:=words.nm (((w.setCell ⟨b,i*3,none⟩ (.string y.s)).setCell ⟨b,i*3+1,none⟩ (.int .i64 (y.r:Int))).setCell ⟨b,i*3+2,none⟩ (.slice y.A y.t.length y.c));obtain⟨z0,e0⟩:∃v,W3.cell? ⟨b,j*3,none⟩=some v:=by rw [hW3];exact hex _ _ (hex _ _ (hex _ _ ⟨_,y0⟩ _ _) _ _) _ _
 obtain⟨z1,e1⟩:∃v,(W3.setCell ⟨b,j*3,none⟩ (.string x.s)).cell? ⟨b,j*3+1,none⟩=some v:=by rw [hW3];exact hex _ _ (hex _ _ (hex _ _ (hex _ _ ⟨_,y1⟩ _ _) _ _) _ _) _ _
 obtain⟨z2,e2⟩:∃v,((W3.setCell ⟨b,j*3,none⟩ (.string x.s)).setCell ⟨b,j*3+1,none⟩ (.int .i64 (x.r:Int))).cell? ⟨b,j*3+2,none⟩=some v:=by rw [hW3];exact hex _ _ (hex _ _ (hex _ _ (hex _ _ (hex _ _ ⟨_,y2⟩ _ _) _ _) _ _) _ _) _ _
 rw [hW3] at e0 e1 e2;have HE:=hid (Jon hx hy h c0 hbg hi hj);have HW3:=hid hW3;clear h hx hy hc c1 hfz hex hW3;go_enter func213,ntmps213
 go_region
 go_end0
 exact⟨⟨_,rfl⟩,HE.out⟩
theorem infoHd:(Tryz.prog.info? 243).map (fun i=>(i.zero,i.size,i.bytes))=some (some (.agg #[.string ⟨#[]⟩,.int .i64 0,.slice none 0 0]),3,48):=by kernel_rfl
theorem Jap {P:Program} {t:TypeId} {z:Option Value} {n b:Nat} (h:(P.info? t).map (fun i=>(i.zero,i.size,i.bytes))=some (z,n,b)):∃i,P.info? t=some i∧i.zero=z∧i.size=n∧i.bytes=b:=by
 rcases hi:P.info? t with _ |i
 ·rw [hi] at h;cases h
 ·rw [hi] at h
  injection h with h;injection h with h1 h2;injection h2 with h2 h3;exact⟨i,rfl,h1,h2,h3⟩
theorem Jka (h:Hd):∀u∈hdCells h,u.oneCell'=true:=fun u hu=>by
 simp only [hdCells,List.mem_cons,List.mem_nil_iff,or_false] at hu;rcases hu with rfl |rfl |rfl<;>rfl
theorem Heaps.push {w w1:World} {B g:Nat} {K:List Hd} {v v':Value} {x:Hd} (hB:B≤g) (hb:w.heap[g]?=some (.cells #[v,fnV] 246 (0,0))) (ho:w.ownsRow B 243 3 v K.length (K.flatMap hdCells))
  (ho':w1.ownsRow B 243 3 v' (K.length+1) (K.flatMap hdCells++hdCells x)) (hg:w.grownBy w1 v.ownBlock):
  Heaps (w1.setCell ⟨g,0,none⟩ v') B g (K++[x])∧Kept HS B w (w1.setCell ⟨g,0,none⟩ v'):=by
 have h1:w1.heap[g]?=some (.cells #[v,fnV] 246 (0,0)):=(hg.block g (lt_of_some hb) (fun e=>Jay ho hb (by decide) e.symm)).trans hb;refine⟨⟨hB,v',heap_setCell_same w1 g 0 _ _ v' h1,?_⟩,?_⟩
 ·rw [List.length_append,List.flatMap_append,List.flatMap_singleton]
  exact Jaq ho' (Jay ho' h1 (by decide)) v'
 ·exact ((Kept.refl HS B w).grown hg ho (Nat.le_refl _) (.inr rfl)).setCell hB ⟨_,_,_,h1,.inl rfl⟩ v'
theorem Jnd {w w1:World} {B g n:Nat} {xs:List Value} {v v0:Value} (hb:w.heap[g]?=some (.cells #[v0,fnV] 246 (0,0))) (ho:w.ownsRow B 243 3 v n xs) (hg:w.grownBy w1 v.ownBlock):w1.heap[g]?=some (.cells #[v0,fnV] 246 (0,0)):=
 (hg.block g (lt_of_some hb) (fun e=>Jay ho hb (by decide) e.symm)).trans hb
theorem Jm9 (B g:Nat) (K:List Hd) (x:Hd) (w:World) (h:Heaps w B g K) (hB:B≤w.heap.size) (hlen:K.length≤100000):
  Calls prog 212 #[.pointer (some ⟨g,0,none⟩),.iface 243 (hdV x)] w (Done fun w'=>Heaps w' B g (K++[x])∧Kept HS B w w'):=by
 obtain⟨i1,hi',hw0,hw1,hw2⟩:=Jap infoHd;obtain⟨hBg,v,hb,ho⟩:=h;obtain⟨A,l,c,rfl⟩:=Jd1 ho;have c0:w.cell? ⟨g,0,none⟩=some (.slice A l c):=Jaa hb 0;have f0:w.frozen? ⟨g,0,none⟩=false:=Jab hb 0;obtain⟨W1,hW1⟩:=words.nm (w.alloc (.cells #[.string x.s,.int .i64 (x.r:Int),.slice x.A x.t.length x.c] 243));have hb1:=words.b1 hW1;have hbk1:=(hb1.block _ (lt_of_some hb)).trans hb;have ho1:W1.ownsRow B 243 3 (.slice A l c) K.length (K.flatMap hdCells):=(Kept.of_below hb1 (fun _=>False) B).own ho (by simp);have d0:W1.cell? ⟨g,0,none⟩=some (.slice A l c):=Jaa hbk1 0;have hn1:∀j u,(hdCells x)[j]?=some u→W1.cell? ((⟨w.heap.size,0,none⟩:Addr).add j)=some u:=by
  rw [hW1];exact World.news_of_block (cs:=#[.string x.s,.int .i64 (x.r:Int),.slice x.A x.t.length x.c]) (heap_alloc_new w _)
 have hz1:W1.heap.size=w.heap.size+1:=by rw [hW1];simp
 have hOne:=Jka x;have HW1:=hid hW1;have HO1:=hid ho1;have HBK:=hid hbk1;have HN:=hid hn1;have HB1:=hid hb1;clear hW1 hb ho hbk1 ho1 hn1 hb1 ;have hcg:∀o:Obj,(w.alloc o).cell? ⟨g,0,none⟩=some (.slice A l c):=fun o=>(World.cell?_of_block (Below.heap_alloc w o g (World.block_lt_of_cell? w _ c0))).trans c0;have hta:∀w':World,Sem.run prog (Instr.typeAssert (.iface 243 (.agg #[.string x.s,.int .i64 (x.r:Int),.slice x.A x.t.length x.c])) 20 243 false) w'= .ok (.agg #[.string x.s,.int .i64 (x.r:Int),.slice x.A x.t.length x.c]) w':=fun _=>by kernel_rfl
 unfold hdV;go_enter func212,ntmps212
 go_region_law (first
   |(refine step_append_lies _ (by rfl) _ _ _ (by rfl) B 243 i1 _ 3 48 underlying244 hi' hw0 hw1 hw2 rfl (by omega) (.slice A l c) K.length (K.flatMap hdCells) (by rfl) (by first |exact HW1.out▸HO1.out)
         ⟨w.heap.size,0,none⟩ 1 1 (hdCells x) (by rfl) (by rfl) (by first |exact HW1.out▸HN.out) hOne
         (by omega) (by simp only [maxLen];omega) (by omega) (by simp;omega) (w.heap.size+1) (by simp) ?_;intro gg cap w5 hown5 hgrow5 hat5 hlt5;have hg5:=Jnd (HW1.out▸HBK.out) (HW1.out▸HO1.out) hgrow5;have hc5:=Jaa hg5 0;have hf5:=Jab hg5 0))
 all_goals
  have hE:=Heaps.push (x:=x) hBg (HW1.out▸HBK.out) (HW1.out▸HO1.out) hown5 hgrow5;have hk:=((Kept.refl HS B w).alloc (.cells #[.string x.s,.int .i64 (x.r:Int),.slice x.A x.t.length x.c] 243)).drew.trans hE.2;have HE:=hid (And.intro hE.1 hk);clear hE hk hown5 hgrow5;go_end0
  exact⟨⟨_,rfl⟩,HE.out⟩

theorem Heaps.pop {w:World} {B g b c:Nat} {K:List Hd} {x:Hd} (h:Heaps w B g (K++[x])) (hc:w.cell? ⟨g,0,none⟩=some (.slice (some ⟨b,0,none⟩) (K.length+1) c)):
  Heaps (w.setCell ⟨g,0,none⟩ (.slice (some ⟨b,0,none⟩) K.length c)) B g K∧Kept HS B w (w.setCell ⟨g,0,none⟩ (.slice (some ⟨b,0,none⟩) K.length c)):=by
 obtain⟨h1,v,h2,h3⟩:=h;have hv:v= .slice (some ⟨b,0,none⟩) (K.length+1) c:=Option.some.inj ((Jaa h2 0).symm.trans hc);subst hv;rw [List.length_append] at h3;have h4:=Jnv h3 K.length (Nat.le_add_right _ _);rw [Jmf,List.take_left] at h4;have hne:(Value.slice (some ⟨b,0,none⟩) K.length c).ownBlock≠some g:=fun e=>Jay h3 h2 (by decide) e;exact⟨⟨h1,_,heap_setCell_same w g 0 _ _ _ h2,Jaq h4 hne _⟩,(Kept.refl HS B w).setCell (p:=⟨g,0,none⟩) h1 ⟨_,_,_,h2,.inl rfl⟩ _⟩
def Popped (B g:Nat) (K:List Hd) (x:Hd) (w:World) (e:Ending) (w':World):Prop:=e= .returned (.iface 243 (hdV x))∧Heaps w' B g K∧Kept HS B w w'
theorem Jpg (B g:Nat) (K:List Hd) (x:Hd) (w:World) (h:Heaps w B g (K++[x])) (hlen:K.length≤100000):
  Calls prog 211 #[.pointer (some ⟨g,0,none⟩)] w (Popped B g K x w):=by
 obtain⟨b,c,c0,_,_,_,hbg,hlc,hcm,hc⟩:=h.cells (by simp);have hl:(K++[x]).length=K.length+1:=by simp
 rw [hl] at c0 hlc;obtain⟨x0,x1,x2⟩:=hc K.length x (by simp);have f0:w.frozen? ⟨g,0,none⟩=false:=Jab h.2.choose_spec.1 0;have i0:(0:Int)≤(K.length:Int):=by omega
 have i1:(K.length:Int)<((K.length+1:Nat):Int):=by omega
 have i2:(K.length:Int)≤(c:Int):=by omega
 have i3:IntKind.i64.wrap (((K.length+1:Nat):Int) - 1)=(K.length:Int):=by rw [IntWalk.i64_in _ (by omega)];omega
 obtain⟨W1,hW1⟩:=words.nm (w.alloc (.cells #[.string x.s,.int .i64 (x.r:Int),.slice x.A x.t.length x.c] 243));have hb1:=words.b1 hW1;have hgl:=World.block_lt_of_cell? w _ c0;have d0:W1.cell? ⟨g,0,none⟩=some (.slice (some ⟨b,0,none⟩) (K.length+1) c):=(hb1.cell (p:=⟨g,0,none⟩) hgl).trans c0;have e0:W1.frozen? ⟨g,0,none⟩=false:=(hb1.frozen (p:=⟨g,0,none⟩) hgl).trans f0;obtain⟨W2,hW2⟩:=words.nm (W1.setCell ⟨g,0,none⟩ (.slice (some ⟨b,0,none⟩) K.length c));have hx2:W2.heap[w.heap.size]?=some (.cells #[.string x.s,.int .i64 (x.r:Int),.slice x.A x.t.length x.c] 243 (0,0)):=by
  rw [hW2,heap_setCell_other W1 ⟨g,0,none⟩ w.heap.size _ (Nat.ne_of_gt hgl),hW1];exact heap_alloc_new w _
 have y0:W2.cell? ⟨w.heap.size,0,none⟩=some (.string x.s):=Jaa hx2 0;have y1:W2.cell? ⟨w.heap.size,1,none⟩=some (.int .i64 (x.r:Int)):=Jaa hx2 1;have y2:W2.cell? ⟨w.heap.size,2,none⟩=some (.slice x.A x.t.length x.c):=Jaa hx2 2;have hE:=(h.later hb1).pop d0;rw [←hW2] at hE;have HE:=hid (And.intro hE.1 ((Kept.of_below hb1 HS B).trans hE.2));have HW1:=hid hW1;have HW2:=hid hW2;clear h hc hl hE hx2 hW1 hW2 hb1;go_enter func211,ntmps211
 go_upto_region 3 with fail
 rw [←HW1.out];clear c0 f0 x0 x1 x2;go_upto_region 4 with fail
 rw [←HW2.out];go_wp2_with fail
 go_ret
 exact⟨rfl,HE.out⟩
end Go.Proofs.YtkjpgheealfedaaGreatDoor.heap

namespace Go.Proofs.YtkjpgheealfedaaGreatDoor.heap
open Go.RowKit words
open scoped List

theorem Jcr (B g i j:Nat) (a b:Int) (K:List Hd) (x y:Hd) (w:World) (h:Heaps w B g K) (hx:K[i]?=some x) (hy:K[j]?=some y) (ha:a=(i:Int)) (hb:b=(j:Int)):
  Calls prog 210 #[.pointer (some ⟨g,0,none⟩),.int .i64 a,.int .i64 b] w fun e w'=>e= .returned (.bool (ltHB x y))∧Below w.heap.size w w':=by
 subst ha hb;exact Jof B g i j K x y w h hx hy
theorem Jcn (B g i j:Nat) (a b:Int) (K:List Hd) (w:World) (h:Heaps w B g K) (hi:i<K.length) (hj:j<K.length) (ha:a=(i:Int)) (hb:b=(j:Int)):
  Calls prog 213 #[.pointer (some ⟨g,0,none⟩),.int .i64 a,.int .i64 b] w (Done fun w'=>Heaps w' B g (swapL K i j hi hj)∧Kept HS B w w'):=by
 subst ha hb;exact Jn1 B g i j K w h hi hj

theorem Jrc (a:Addr) (w:World):Sem.run prog (method 409 239 (.pointer (some a)) "Less") w= .ok (210,.pointer (some a)) w:=by kernel_rfl
theorem Jog (a:Addr) (w:World):Sem.run prog (method 409 239 (.pointer (some a)) "Swap") w= .ok (213,.pointer (some a)) w:=by kernel_rfl
theorem Jtb (a:Addr) (w:World):Sem.run prog (method 409 239 (.pointer (some a)) "Push") w= .ok (212,.pointer (some a)) w:=by kernel_rfl
theorem Jtu (a:Addr) (w:World):Sem.run prog (method 409 239 (.pointer (some a)) "Pop") w= .ok (211,.pointer (some a)) w:=by kernel_rfl
theorem Jta (a:Addr) (w:World):Sem.run prog (method 409 239 (.pointer (some a)) "Len") w= .ok (138,.pointer (some a)) w:=by kernel_rfl

structure UpIn (B g:Nat) (K:List Hd) (w:World) (j:Nat) (L:List Hd) (wr:World):Prop where
 lt:j<L.length
 hs:Heaps wr B g L
 perm:L ~ K
 up:Up ltH L L.length j
 kept:Kept HS B w wr
structure HeapIn (B g:Nat) (K:List Hd) (w:World) (L:List Hd) (wr:World):Prop where
 hs:Heaps wr B g L
 perm:L ~ K
 hp:Hp ltH L L.length
 kept:Kept HS B w wr
def Heaped (B g:Nat) (K:List Hd) (w w':World):Prop:=∃L,HeapIn B g K w L w'
theorem Jsz (B g j:Nat) (K:List Hd) (w:World) (h:Heaps w B g K) (hj:j<K.length) (hu:Up ltH K K.length j) (hlen:K.length≤100000):
  Calls prog 177 #[.iface 239 (.pointer (some ⟨g,0,none⟩)),.int .i64 (j:Int)] w (Done (Heaped B g K w)):=by
 have HI:Hid (UpIn B g K w j K w):=hid ⟨hj,h,List.Perm.refl _,hu,Kept.refl _ _ _⟩;clear h hu;go_enter func177,ntmps177
 go_wp2_with fail
 go_loopw [1] (fun v wr=>∃(i:Nat) (L:List Hd),v= .int .i64 (i:Int)∧i≤j∧Hid (UpIn B g K w i L wr)) (fun v _=>(intOf v).toNat)
 case atStart=>exact⟨j,K,rfl,Nat.le_refl _,HI⟩
 case round=>
  obtain⟨i,L,rfl,hij,HL⟩:=hrel;rcases i with _ |k
  ·have HE:Hid (HeapIn B g K w L wr):=hid ⟨HL.out.hs,HL.out.perm,HL.out.up.done0,HL.out.kept⟩
   clear HL;go_wp2_with fail
   go_end0
   exact⟨⟨_,rfl⟩,L,HE.out⟩
  ·have hlt:=HL.out.lt
   obtain⟨x,hx⟩:∃x,L[k+1]?=some x:=⟨_,List.getElem?_eq_getElem hlt⟩
   obtain⟨y,hy⟩:∃y,L[k / 2]?=some y:=⟨_,List.getElem?_eq_getElem (by omega)⟩
   have hxx:L[k+1]=x:=(List.getElem?_eq_some_iff.1 hx).2;have hyy:L[k / 2]'(by omega)=y:=(List.getElem?_eq_some_iff.1 hy).2;have k0:(0:Int)≤(k:Int):=by omega
   have k1:(k:Int)≤100000:=by have:=HL.out.perm.length_eq;omega
   have g0:(((k:Int) / 2)==(k:Int)+1)=false:=by rw [beq_eq_false_iff_ne];omega
   have HC:=hid (Jcr B g (k+1) (k / 2) ((k:Int)+1) ((k:Int) / 2) L x y wr HL.out.hs hx hy (by omega) (by omega));have hm1:=fun w=>Jrc ⟨g,0,none⟩ w;have hm2:=fun w=>Jog ⟨g,0,none⟩ w;have HX:=hid (And.intro hxx hyy);clear hx hy hxx hyy;go_wp2_with fail
   refine HC.out.mono ?_;rintro e w2 ⟨rfl,hb2⟩;have hs2:=HL.out.hs.later hb2;have hk2:=HL.out.kept.trans (Kept.of_below hb2 HS B);rcases hr:ltHB x y with _ |_
   ·have HE:Hid (HeapIn B g K w L w2):=hid ⟨hs2,HL.out.perm,HL.out.up.done (p:=k / 2) hlt (by omega) (by omega) (by rw [HX.out.1,HX.out.2];exact Jf3 hr),hk2⟩
    clear hs2 hk2 hb2 HC;go_wp2_with fail
    go_end0
    exact⟨⟨_,rfl⟩,L,HE.out⟩
   ·have HC2:=hid (Jcn B g (k / 2) (k+1) ((k:Int) / 2) ((k:Int)+1) L w2 hs2 (by omega) hlt (by omega) (by omega))
    have HU:=hid (HL.out.up.step Jbh (p:=k / 2) hlt (by omega) hlt (by omega) (by omega) (by rw [HX.out.1,HX.out.2];exact Jd7 hr));have HK2:=hid hk2;clear hs2 hk2 hb2 HC;go_wp2_with fail
    refine HC2.out.mono ?_;rintro e w3 ⟨⟨u,rfl⟩,hs3,hk3⟩;have HN:Hid (UpIn B g K w (k / 2) (swapL L (k / 2) (k+1) (by omega) hlt) w3):=hid ⟨by rw [Jag];omega,hs3,(Jbw _ _ _ _ _).trans HL.out.perm,by rw [Jag];exact HU.out,HK2.out.trans hk3⟩;clear hs3 hk3 HC2 HU HK2;go_wp2_with fail
    go_roundw
    case rel=>exact⟨k / 2,_,by first |rfl |(congr 1;omega),by omega,HN⟩
    case measure=>simp [intOf];omega

structure DownIn (B g n:Nat) (K:List Hd) (w:World) (i:Nat) (L:List Hd) (wr:World):Prop where
 lt:n<L.length
 hs:Heaps wr B g L
 perm:L ~ K
 last:L[n]?=K[n]?
 down:Down ltH L n i
 kept:Kept HS B w wr
structure CutIn (B g n:Nat) (K:List Hd) (w:World) (L:List Hd) (wr:World):Prop where
 hs:Heaps wr B g L
 perm:L ~ K
 last:L[n]?=K[n]?
 hp:Hp ltH L n
 kept:Kept HS B w wr
def Sunk (B g n:Nat) (K:List Hd) (w:World) (e:Ending) (w':World):Prop:=(∃b,e= .returned (.bool b))∧∃L,CutIn B g n K w L w'
structure Child (L:List Hd) (n i j:Nat):Prop where
 lt:j<n
 lo:2*i+1≤j
 hi:j≤2*i+2
 le:∀k (hk:k<L.length) (hj:j<L.length),0<k→k<n→(k - 1) / 2=i→¬ltH L[k] L[j]
theorem Child.only {L:List Hd} {n i:Nat} (h1:2*i+1<n) (h2:¬2*i+2<n):Child L n i (2*i+1):=
 ⟨h1,by omega,by omega,fun k hk hj h0 hn e=>by
   obtain rfl:k=2*i+1:=by omega
   exact fun hc=>Jbh.asym _ _ hc hc⟩
theorem Child.left {L:List Hd} {n i:Nat} {x y:Hd} (h2:2*i+2<n) (hx:L[2*i+2]?=some x) (hy:L[2*i+1]?=some y) (h:ltHB x y=false):Child L n i (2*i+1):=
 ⟨by omega,by omega,by omega,fun k hk hj h0 hkn e=>by
   rcases (show k=2*i+1∨k=2*i+2 by omega) with rfl |rfl
   ·exact fun hc=>Jbh.asym _ _ hc hc
   ·rw [(List.getElem?_eq_some_iff.1 hx).2,(List.getElem?_eq_some_iff.1 hy).2]
    exact Jf3 h⟩
theorem Child.right {L:List Hd} {n i:Nat} {x y:Hd} (h2:2*i+2<n) (hx:L[2*i+2]?=some x) (hy:L[2*i+1]?=some y) (h:ltHB x y=true):Child L n i (2*i+2):=
 ⟨by omega,by omega,by omega,fun k hk hj h0 hkn e=>by
   rcases (show k=2*i+1∨k=2*i+2 by omega) with rfl |rfl
   ·rw [(List.getElem?_eq_some_iff.1 hx).2,(List.getElem?_eq_some_iff.1 hy).2]
    exact Jbh.asym _ _ (Jd7 h)
   ·exact fun hc=>Jbh.asym _ _ hc hc⟩
theorem Jei {L:List Hd} {i j n:Nat} (hi:i<L.length) (hj:j<L.length) (h1:i≠n) (h2:j≠n):(swapL L i j hi hj)[n]?=L[n]?:=by
 unfold swapL;rw [List.getElem?_set_ne h2,List.getElem?_set_ne h1]
theorem Jqm (B g n:Nat) (K:List Hd) (w:World) (h:Heaps w B g K) (hn:n<K.length) (hd:Down ltH K n 0) (hlen:K.length≤100000):
  Calls prog 164 #[.iface 239 (.pointer (some ⟨g,0,none⟩)),.int .i64 0,.int .i64 (n:Int)] w (Sunk B g n K w):=by
 have HI:Hid (DownIn B g n K w 0 K w):=hid ⟨hn,h,List.Perm.refl _,rfl,hd,Kept.refl _ _ _⟩;have hm1:=fun w=>Jrc ⟨g,0,none⟩ w;have hm2:=fun w=>Jog ⟨g,0,none⟩ w;clear h hd;go_enter func164,ntmps164
 go_wp2_with fail
 go_loopw [7] (fun v wr=>∃(i:Nat) (L:List Hd),v= .int .i64 (i:Int)∧i≤n∧Hid (DownIn B g n K w i L wr)) (fun v _=>n - (intOf v).toNat)
 case atStart=>exact⟨0,K,rfl,Nat.zero_le _,HI⟩
 case round=>
  obtain⟨i,L,rfl,hin,HL⟩:=hrel;have hln:=HL.out.lt;have hL:L.length≤100000:=by have:=HL.out.perm.length_eq;omega
  have i0:(0:Int)≤(i:Int):=by omega
  have i1:(i:Int)≤100000:=by omega
  have i2:(n:Int)≤100000:=by omega
  by_cases h1:2*i+1<n
  ·have g1:decide ((n:Int)≤2*(i:Int)+1)=false:=by rw [decide_eq_false_iff_not];omega
   have g1':¬(n:Int)≤2*(i:Int)+1:=by omega
   have g2:¬2*(i:Int)+1<0:=by omega
   obtain⟨z,hz⟩:∃z,L[i]?=some z:=⟨_,List.getElem?_eq_getElem (by omega)⟩
   obtain⟨y,hy⟩:∃y,L[2*i+1]?=some y:=⟨_,List.getElem?_eq_getElem (by omega)⟩
   by_cases h2:2*i+2<n
   ·have g3:decide (2*(i:Int)+1+1<(n:Int))=true:=by rw [decide_eq_true_iff];omega
    have g3':2*(i:Int)+1+1<(n:Int):=by omega
    obtain⟨x,hx⟩:∃x,L[2*i+2]?=some x:=⟨_,List.getElem?_eq_getElem (by omega)⟩
    have HC:=hid (Jcr B g (2*i+2) (2*i+1) (2*(i:Int)+1+1) (2*(i:Int)+1) L x y wr HL.out.hs hx hy (by omega) (by omega));have HX:=hid (And.intro hx (And.intro hy hz));clear hx hy hz;go_wp2_with fail
    refine HC.out.mono ?_;rintro e w2 ⟨rfl,hb2⟩;have HS2:=hid (HL.out.hs.later hb2);have HK2:=hid (HL.out.kept.trans (Kept.of_below hb2 HS B));have HZ:=hid HX.out.2.2;clear hb2 HC;rcases hr:ltHB x y with _ |_
    ·have HCh:=hid (Child.left h2 HX.out.1 HX.out.2.1 hr)
     have HJ:=hid HX.out.2.1;clear hr;have HC1:=hid (Jcr B g (2*i+1) i (2*(i:Int)+1) (i:Int) L y z w2 HS2.out HJ.out HZ.out (by omega) rfl);go_wp2_with fail
     refine HC1.out.mono ?_;rintro e w4 ⟨rfl,hb4⟩;have HS4:=hid (HS2.out.later hb4);have HK4:=hid (HK2.out.trans (Kept.of_below hb4 HS B));clear hb4 HC1;rcases hr2:ltHB y z with _ |_
     ·have HE:Hid (CutIn B g n K w L w4):=hid ⟨HS4.out,HL.out.perm,HL.out.last,HL.out.down.stop Jbh (j:=2*i+1) (by omega) (by omega) (fun k hk k0 kn ke=>HCh.out.le k hk (by omega) k0 kn ke) (by rw [(List.getElem?_eq_some_iff.1 HJ.out).2,(List.getElem?_eq_some_iff.1 HZ.out).2];exact Jf3 hr2),HK4.out⟩
      clear hr2;go_wp2_with fail
      go_ret
      exact⟨⟨_,rfl⟩,L,HE.out⟩
     ·have HD:=hid (HL.out.down.step Jbh (j:=2*i+1) (by omega) (by omega) (by omega) (by omega) (by omega) (fun k hk k0 kn ke=>HCh.out.le k hk (by omega) k0 kn ke) (by rw [(List.getElem?_eq_some_iff.1 HJ.out).2,(List.getElem?_eq_some_iff.1 HZ.out).2];exact Jd7 hr2))
      have HC2:=hid (Jcn B g i (2*i+1) (i:Int) (2*(i:Int)+1) L w4 HS4.out (by omega) (by omega) rfl (by omega));clear hr2;go_wp2_with fail
      refine HC2.out.mono ?_;rintro e w5 ⟨⟨u,rfl⟩,hs5,hk5⟩;have HN:Hid (DownIn B g n K w (2*i+1) (swapL L i (2*i+1) (by omega) (by omega)) w5):=hid ⟨by rw [Jag];exact hln,hs5,(Jbw _ _ _ _ _).trans HL.out.perm,(Jei _ _ (by omega) (by omega)).trans HL.out.last,HD.out,HK4.out.trans hk5⟩;clear hs5 hk5 HC2 HD HS4 HK4;go_wp2_with fail
      go_roundw
      case rel=>exact⟨2*i+1,_,by first |rfl |(congr 1;omega),by omega,HN⟩
      case measure=>simp [intOf];omega
    ·have HCh:=hid (Child.right h2 HX.out.1 HX.out.2.1 hr)
     have HJ:=hid HX.out.1;clear hr;have HC1:=hid (Jcr B g (2*i+2) i (2*(i:Int)+1+1) (i:Int) L x z w2 HS2.out HJ.out HZ.out (by omega) rfl);go_wp2_with fail
     refine HC1.out.mono ?_;rintro e w4 ⟨rfl,hb4⟩;have HS4:=hid (HS2.out.later hb4);have HK4:=hid (HK2.out.trans (Kept.of_below hb4 HS B));clear hb4 HC1;rcases hr2:ltHB x z with _ |_
     ·have HE:Hid (CutIn B g n K w L w4):=hid ⟨HS4.out,HL.out.perm,HL.out.last,HL.out.down.stop Jbh (j:=2*i+2) (by omega) (by omega) (fun k hk k0 kn ke=>HCh.out.le k hk (by omega) k0 kn ke) (by rw [(List.getElem?_eq_some_iff.1 HJ.out).2,(List.getElem?_eq_some_iff.1 HZ.out).2];exact Jf3 hr2),HK4.out⟩
      clear hr2;go_wp2_with fail
      go_ret
      exact⟨⟨_,rfl⟩,L,HE.out⟩
     ·have HD:=hid (HL.out.down.step Jbh (j:=2*i+2) (by omega) (by omega) (by omega) (by omega) (by omega) (fun k hk k0 kn ke=>HCh.out.le k hk (by omega) k0 kn ke) (by rw [(List.getElem?_eq_some_iff.1 HJ.out).2,(List.getElem?_eq_some_iff.1 HZ.out).2];exact Jd7 hr2))
      have HC2:=hid (Jcn B g i (2*i+2) (i:Int) (2*(i:Int)+1+1) L w4 HS4.out (by omega) (by omega) rfl (by omega));clear hr2;go_wp2_with fail
      refine HC2.out.mono ?_;rintro e w5 ⟨⟨u,rfl⟩,hs5,hk5⟩;have HN:Hid (DownIn B g n K w (2*i+2) (swapL L i (2*i+2) (by omega) (by omega)) w5):=hid ⟨by rw [Jag];exact hln,hs5,(Jbw _ _ _ _ _).trans HL.out.perm,(Jei _ _ (by omega) (by omega)).trans HL.out.last,HD.out,HK4.out.trans hk5⟩;clear hs5 hk5 HC2 HD HS4 HK4;go_wp2_with fail
      go_roundw
      case rel=>exact⟨2*i+2,_,by first |rfl |(congr 1;omega),by omega,HN⟩
      case measure=>simp [intOf];omega
   ·have g3:decide (2*(i:Int)+1+1<(n:Int))=false:=by rw [decide_eq_false_iff_not];omega
    have g3':¬2*(i:Int)+1+1<(n:Int):=by omega
    have HCh:=hid (Child.only (L:=L) h1 h2);have HS2:=hid HL.out.hs;have HK2:=hid HL.out.kept;have HZ:=hid hz;have HJ:=hid hy;clear hz hy;have HC1:=hid (Jcr B g (2*i+1) i (2*(i:Int)+1) (i:Int) L y z wr HS2.out HJ.out HZ.out (by omega) rfl);go_wp2_with fail
    refine HC1.out.mono ?_;rintro e w4 ⟨rfl,hb4⟩;have HS4:=hid (HS2.out.later hb4);have HK4:=hid (HK2.out.trans (Kept.of_below hb4 HS B));clear hb4 HC1;rcases hr2:ltHB y z with _ |_
    ·have HE:Hid (CutIn B g n K w L w4):=hid ⟨HS4.out,HL.out.perm,HL.out.last,HL.out.down.stop Jbh (j:=2*i+1) (by omega) (by omega) (fun k hk k0 kn ke=>HCh.out.le k hk (by omega) k0 kn ke) (by rw [(List.getElem?_eq_some_iff.1 HJ.out).2,(List.getElem?_eq_some_iff.1 HZ.out).2];exact Jf3 hr2),HK4.out⟩
     clear hr2;go_wp2_with fail
     go_ret
     exact⟨⟨_,rfl⟩,L,HE.out⟩
    ·have HD:=hid (HL.out.down.step Jbh (j:=2*i+1) (by omega) (by omega) (by omega) (by omega) (by omega) (fun k hk k0 kn ke=>HCh.out.le k hk (by omega) k0 kn ke) (by rw [(List.getElem?_eq_some_iff.1 HJ.out).2,(List.getElem?_eq_some_iff.1 HZ.out).2];exact Jd7 hr2))
     have HC2:=hid (Jcn B g i (2*i+1) (i:Int) (2*(i:Int)+1) L w4 HS4.out (by omega) (by omega) rfl (by omega));clear hr2;go_wp2_with fail
     refine HC2.out.mono ?_;rintro e w5 ⟨⟨u,rfl⟩,hs5,hk5⟩;have HN:Hid (DownIn B g n K w (2*i+1) (swapL L i (2*i+1) (by omega) (by omega)) w5):=hid ⟨by rw [Jag];exact hln,hs5,(Jbw _ _ _ _ _).trans HL.out.perm,(Jei _ _ (by omega) (by omega)).trans HL.out.last,HD.out,HK4.out.trans hk5⟩;clear hs5 hk5 HC2 HD HS4 HK4;go_wp2_with fail
     go_roundw
     case rel=>exact⟨2*i+1,_,by first |rfl |(congr 1;omega),by omega,HN⟩
     case measure=>simp [intOf];omega
  ·have g1:(n:Int)≤2*(i:Int)+1:=by omega
   have HE:Hid (CutIn B g n K w L wr):=hid ⟨HL.out.hs,HL.out.perm,HL.out.last,HL.out.down.done (by omega) fun k hk k0 kn e=>by omega,HL.out.kept⟩;clear HL;go_wp2_with fail
   go_ret
   exact⟨⟨_,rfl⟩,L,HE.out⟩
theorem Jl6 (B g:Nat) (K:List Hd) (x:Hd) (w:World) (h:Heaps w B g K) (hB:B≤w.heap.size) (hp:Hp ltH K K.length) (hlen:K.length≤90000):
  Calls prog 163 #[.iface 239 (.pointer (some ⟨g,0,none⟩)),.iface 243 (hdV x)] w (Done (Heaped B g (K++[x]) w)):=by
 have hm1:=fun w=>Jtb ⟨g,0,none⟩ w;have hm2:=fun w=>Jta ⟨g,0,none⟩ w;have HC:=hid (Jm9 B g K x w h hB (by omega));have HP:=hid hp;unfold hdV at HC ⊢;clear h hp;go_enter func163,ntmps163
 go_wp2_with fail
 refine HC.out.mono ?_;rintro e w2 ⟨⟨u,rfl⟩,hs2,hk2⟩;have hl:(K++[x]).length=K.length+1:=by simp
 have HS2:=hid hs2;have HK2:=hid hk2;have HL:=hid (show Calls prog 138 #[.pointer (some ⟨g,0,none⟩)] w2 fun e w'=>e= .returned (.int .i64 ((K.length:Int)+1))∧w2=w' from (Je8 B g _ w2 hs2).mono fun e w' ⟨h1,h2⟩=>⟨by rw [h1,hl];rfl,h2⟩);have HU:=hid (Jsz B g K.length (K++[x]) w2 hs2 (by omega) (by rw [hl];exact Up.push HP.out x) (by omega));have k0:(0:Int)≤(K.length:Int):=by omega
 have k1:(K.length:Int)≤100000:=by omega
 clear hs2 hk2 HC hl;go_wp2_with fail
 refine HL.out.mono ?_;rintro e w3 ⟨rfl,rfl⟩;go_wp2_with fail
 refine HU.out.mono ?_;rintro e w3 ⟨⟨u,rfl⟩,L,hl3⟩;have HE:Hid (Heaped B g (K++[x]) w w3):=hid ⟨L,hl3.hs,hl3.perm,hl3.hp,HK2.out.trans hl3.kept⟩;clear hl3 HU HL;go_wp2_with fail
 go_end0
 exact⟨⟨_,rfl⟩,HE.out⟩

structure PopIn (B g:Nat) (K:List Hd) (w:World) (x:Hd) (L:List Hd) (w':World):Prop where
 hs:Heaps w' B g L
 perm:K ~ x::L
 least:∀y∈K,¬ltH y x
 hp:Hp ltH L L.length
 kept:Kept HS B w w'
def LeastOut (B g:Nat) (K:List Hd) (w:World) (e:Ending) (w':World):Prop:=∃x L,e= .returned (.iface 243 (hdV x))∧PopIn B g K w x L w'
theorem Jm3 (B g n:Nat) (K:List Hd) (w:World) (h:Heaps w B g K) (hn:K.length=n+1) (hp:Hp ltH K K.length) (hlen:K.length≤100000):
  Calls prog 139 #[.iface 239 (.pointer (some ⟨g,0,none⟩))] w (LeastOut B g K w):=by
 have hm1:=fun w=>Jtu ⟨g,0,none⟩ w;have hm2:=fun w=>Jta ⟨g,0,none⟩ w;have hm3:=fun w=>Jog ⟨g,0,none⟩ w;have HL:=hid (show Calls prog 138 #[.pointer (some ⟨g,0,none⟩)] w fun e w'=>e= .returned (.int .i64 ((n:Int)+1))∧w=w' from (Je8 B g _ w h).mono fun e w' ⟨h1,h2⟩=>⟨by rw [h1,hn];rfl,h2⟩);have hi0:0<K.length:=by omega
 have hnl:n<K.length:=by omega
 have HC1:=hid (Jcn B g 0 n 0 (n:Int) K w h hi0 hnl rfl rfl);obtain⟨x,hx⟩:=words.nm (K[0]'hi0);have hleast:∀y∈K,¬ltH y x:=fun y hy=>by
  obtain⟨k,hk,rfl⟩:=List.mem_iff_getElem.1 hy;rw [hx];exact hp.least Jbh k hk hk
 have hdn:Down ltH (swapL K 0 n hi0 hnl) n 0:=Down.start (n:=n) (by rw [←hn];exact hp) (by omega);have hlast:(swapL K 0 n hi0 hnl)[n]?=some x:=by
  rw [List.getElem?_eq_getElem (by rw [Jag];omega),Jax,if_pos rfl,hx]
 have k0:(0:Int)≤(n:Int):=by omega
 have k1:(n:Int)≤100000:=by omega
 have Hn:=hid hn;have HX:=hid hlast;have HLe:=hid hleast;have HDn:=hid hdn;clear h hp hx hleast hdn hlast hn;go_enter func139,ntmps139
 go_wp2_with fail
 refine HL.out.mono ?_;rintro e w2 ⟨rfl,rfl⟩;go_wp2_with fail
 refine HC1.out.mono ?_;rintro e w2 ⟨⟨u,rfl⟩,hs2,hk2⟩;have HD:=hid (Jqm B g n _ w2 hs2 (by rw [Jag,Hn.out];omega) HDn.out (by rw [Jag];omega));have HK2:=hid hk2;clear hs2 hk2 HC1 HL;go_wp2_with fail
 refine HD.out.mono ?_;rintro e w3 ⟨⟨bb,rfl⟩,L,hl3⟩;have hlen3:L.length=n+1:=by rw [hl3.perm.length_eq,Jag,Hn.out]
 have hLn:L[n]?=some x:=hl3.last.trans HX.out;have hsplit:L=L.take n++[x]:=by
  obtain⟨hlt,hxx⟩:=List.getElem?_eq_some_iff.1 hLn;rw [←hxx,←List.take_succ_eq_append_getElem hlt,List.take_of_length_le (by omega)]
 have hs3:=hl3.hs;rw [hsplit] at hs3;have HP:=hid (Jpg B g (L.take n) x w3 hs3 (by rw [List.length_take];omega));have hperm:K ~ x::L.take n:=by
  refine (Jbw K 0 n hi0 hnl).symm.trans (hl3.perm.symm.trans ?_);rw [hsplit];rw [List.take_left' (by rw [List.length_take];omega)];exact List.perm_append_comm
 have hhp:Hp ltH (L.take n) (L.take n).length:=by
  rw [List.length_take,Nat.min_eq_left (by omega)];exact hl3.hp.take n (Nat.le_refl _)
 have HPm:=hid hperm;have HHp:=hid hhp;have HK3:=hid (HK2.out.trans hl3.kept);clear hl3 hlen3 hLn hsplit hs3 hperm hhp HD HK2;go_wp2_with fail
 refine HP.out.mono ?_;rintro e w4 ⟨rfl,hs4,hk4⟩;have HE:Hid (PopIn B g K w x (L.take n) w4):=hid ⟨hs4,HPm.out,HLe.out,HHp.out,HK3.out.trans hk4⟩;clear hs4 hk4 HP;go_wp2_with fail
 go_ret
 exact⟨x,L.take n,rfl,HE.out⟩

theorem infoStr:(Tryz.prog.info? 9).map (fun i=>(i.zero,i.size,i.bytes))=some (some (.string ⟨#[]⟩),1,16):=by kernel_rfl
theorem Jir (A:Option Addr) (n cap i:Nat) (h:i≤n) (wx:World):
  (Instr.slice 47 (.slice A n cap) (some (.int .i64 (i:Int))) none none).run prog wx= .ok (.slice (if cap=i then A else A.map (·.add (i*1))) (n - i) (cap - i)) wx:=by
 obtain⟨i0,hi,hz0,hz1,hz2⟩:=Jap infoStr;have he:Tryz.prog.elem 47=9:=by kernel_rfl
 rw [run_slice_l (P:=prog) wx 47 A n cap (by kernel_rfl) .i64 (i:Int) (by omega) (by omega),he];simp [sizeOf,typeInfo,hi,hz1,Result.andThen,sliced]
theorem Jrj (b off:Nat):(⟨b,off,none⟩:Addr).add (1*1)=⟨b,off+1,none⟩:=by unfold Addr.add;split<;>simp_all
def Tails (w:World) (B:Nat) (K:List Hd):Prop:=∀h∈K,Row w B h.A h.t∧h.t.length≤h.c∧h.c≤maxLen∧Ris (h.s::h.t)
def PutIn (w0:World) (B g r:Nat) (N:List ByteArray) (K:List Hd) (w w':World):Prop:=
 ∃E:List Hd,E.flatMap Hd.its=N.map (fun s=>(s,r))∧E.length≤1∧Tails w0 B E∧Heaped B g (K++E) w w'
theorem Jeg (w0:World) (B g r c:Nat) (A:Option Addr) (N:List ByteArray) (K:List Hd) (w:World) (hN:Row w0 B A N) (hc:N.length≤c) (hcm:c≤maxLen) (hR:Ris N) (h0:Below B w0 w) (h:Heaps w B g K) (hB:B≤w.heap.size) (hp:Hp ltH K K.length) (hlen:K.length≤90000):
  Calls prog 137 #[.pointer (some ⟨g,0,none⟩),.int .i64 (r:Int),.slice A N.length c] w (Done (PutIn w0 B g r N K w)):=by
 unfold maxLen at hcm;rcases N with _ |⟨s,t⟩
 ·have HE:Hid (PutIn w0 B g r [] K w w):=hid ⟨[],rfl,by simp,fun h hh=>(by cases hh),K,h,(by rw [List.append_nil]),hp,Kept.refl _ _ _⟩
  clear h hp hN h0;go_enter func137,ntmps137
  go_wp2_with fail
  go_end0
  exact⟨⟨_,rfl⟩,HE.out⟩
 ·obtain⟨b,off,rfl,hb,c0⟩:=hN 0 s rfl
  have cw:w.cell? ⟨b,off,none⟩=some (.string s):=(h0.cell (p:=⟨b,off,none⟩) hb).trans c0;have e1:(s::t).length=t.length+1:=rfl;rw [e1] at hc ⊢;have i1:(0:Int)<(t.length:Int)+1:=by omega
  have i2:(0:Nat)<t.length+1:=by omega
  have i3:((t.length:Int)+1)≤(c:Int):=by omega
  obtain⟨A',hA'⟩:∃A':Option Addr,A'=if c=1 then some ⟨b,off,none⟩ else (some ⟨b,off,none⟩:Option Addr).map (·.add (1*1)):=⟨_,rfl⟩
  have hr:Row w0 B A' t:=by
   rw [hA'];by_cases hc1:c=1
   ·have ht:t=[]:=List.eq_nil_of_length_eq_zero (by omega)
    rw [ht];exact Row.nil _ _ _
   ·rw [if_neg hc1,Option.map_some,Jrj]
    exact hN.tail
  have hsl:∀W:World,(Instr.slice 47 (.slice (some ⟨b,off,none⟩) (t.length+1) c) (some (.int .i64 1)) none none).run prog W= .ok (.slice A' t.length (c - 1)) W:=fun W=>by
   rw [hA'];exact Jir _ _ _ 1 (by omega) W
  obtain⟨x,hx⟩:∃x:Hd,x=⟨s,r,A',c - 1,t⟩:=⟨_,rfl⟩
  have hC:=Jl6 B g K x w.drew h.drew (by exact hB) hp hlen;have hE:∀w',Heaped B g (K++[x]) w.drew w'→PutIn w0 B g r (s::t) K w w':=fun w' ⟨L,q1,q2,q3,q4⟩=>
   ⟨[x],by rw [hx];simp [Hd.its,Hd.it],by simp,fun y hy=>by
     obtain rfl:y=x:=by simpa using hy
     rw [hx];exact⟨hr,(by show t.length≤c - 1;omega),(by show c - 1≤maxLen;unfold maxLen;omega),hR⟩,L,q1,q2,q3,(Kept.refl HS B w).drew.trans q4⟩
  unfold hdV at hC;rw [hx] at hC hE;have HC:=hid hC;have HE:=hid hE;clear hC hE hx h hp hN h0 c0 hA' hr;go_enter func137,ntmps137
  go_wp2_with fail
  go_still_tail 11,(by kernel_rfl)
  change wpList _ _ _ _ _ w.drew;generalize hw:w.drew=w2;rw [hw] at HC HE;clear hw cw;go_wp2_with fail
  refine HC.out.mono ?_;rintro e w3 ⟨⟨u,rfl⟩,h3⟩;have H3:=hid (HE.out w3 h3);clear h3 HC HE;go_wp2_with fail
  go_end0
  exact⟨⟨_,rfl⟩,H3.out⟩

def Rws (w:World) (B:Nat) (A:Option Addr) (L:List (List ByteArray)):Prop:=
 ∀i l,L[i]?=some l→∃b off Ai ci,A=some ⟨b,off,none⟩∧b<B∧w.cell? ⟨b,off+i,none⟩=some (.slice Ai l.length ci)∧Row w B Ai l∧l.length≤ci∧ci≤maxLen
def itCells (x:It):List Value:=[.string x.1,.int .i64 (x.2:Int)]
def tot (L:List (List ByteArray)):Nat:=(allF L).length
theorem Jdd (x:It):∀u∈itCells x,u.oneCell'=true:=fun u hu=>by
 simp only [itCells,List.mem_cons,List.mem_nil_iff,or_false] at hu;rcases hu with rfl |rfl<;>rfl
theorem Heaps.other {S:TypeId→Prop} {w w':World} {B B' g:Nat} {K:List Hd} (h:Heaps w B g K) (hk:Kept S B' w w') (h1:¬S 246) (h2:¬S 243):Heaps w' B g K:=by
 obtain⟨hB,v,hb,ho⟩:=h;exact⟨hB,v,hk.blk hb h1,hk.own ho h2⟩
theorem Jrq {x h:Hd} (hl:¬ltH h x) (hr:Ris (h.s::h.t)):∀y∈h.its,leI x.it y:=fun y hy=>by
 rcases List.mem_cons.1 hy with rfl |hy
 ·exact hl
 ·obtain⟨s,hs,rfl⟩:=List.mem_map.1 hy
  refine Jop hl fun hc=>?_;have h1:=(List.pairwise_cons.1 hr).1 s hs;rcases hc with hc |⟨hc,_⟩
  ·have hc2:ltB s h.s=true:=hc
   rw [Jkh h1] at hc2;cases hc2
  ·have hc':s=h.s:=hc
   rw [hc',ltB_self] at h1;cases h1

structure In1 (w:World) (g:Nat) (L:List (List ByteArray)) (k:Nat) (K:List Hd) (wr:World):Prop where
 hs:Heaps wr w.heap.size g K
 hp:Hp ltH K K.length
 tails:Tails w w.heap.size K
 all:K.flatMap Hd.its ~ allF (L.take k)
 len:K.length≤k
 below:Below w.heap.size w wr
structure In2 (w:World) (g:Nat) (L:List (List ByteArray)) (K:List Hd) (out:List It) (v:Value) (wr:World):Prop where
 hs:Heaps wr w.heap.size g K
 hp:Hp ltH K K.length
 tails:Tails w w.heap.size K
 mrg:Mrg (allF L) out (K.flatMap Hd.its)
 len:K.length≤L.length
 own:wr.ownsRow w.heap.size 218 2 v out.length (out.flatMap itCells)
 below:Below w.heap.size w wr
def MergedIn (w:World) (L:List (List ByteArray)) (e:Ending) (w':World):Prop:=
 ∃v out,e= .returned v∧w'.ownsRow w.heap.size 218 2 v out.length (out.flatMap itCells)∧Merged L out∧Below w.heap.size w w'
theorem In1.next {w wr w2:World} {g k:Nat} {L:List (List ByteArray)} {K:List Hd} {N:List ByteArray} (h:In1 w g L k K wr) (hN:L[k]?=some N) (hp:PutIn w w.heap.size g k N K wr w2):∃K',In1 w g L (k+1) K' w2:=by
 obtain⟨E,e1,e2,e3,K',q1,q2,q3,q4⟩:=hp;obtain⟨hk,hkN⟩:=List.getElem?_eq_some_iff.1 hN;refine⟨K',q1,q3,fun x hx=>?_,?_,?_,h.below.trans (q4.below h.below.size)⟩
 ·rcases List.mem_append.1 (q2.subset hx) with hx |hx
  ·exact h.tails x hx
  ·exact e3 x hx
 ·refine (List.Perm.flatMap_right _ q2).trans ?_
  rw [List.flatMap_append,e1,List.take_succ_eq_append_getElem hk,hkN,Jn9,List.length_take,Nat.min_eq_left (Nat.le_of_lt hk)];exact h.all.append_right _
 ·rw [q2.length_eq,List.length_append]
  have:=h.len;omega
theorem In1.done {w wr:World} {g:Nat} {L:List (List ByteArray)} {K:List Hd} (h:In1 w g L L.length K wr):In2 w g L K [] (.slice none 0 0) wr:=
 ⟨h.hs,h.hp,h.tails,Mrg.start (by have:=h.all;rwa [List.take_length] at this),h.len,World.ownsRow_nil _ _ _ _,h.below⟩
theorem In2.fin {w wr:World} {g:Nat} {L:List (List ByteArray)} {out:List It} {v:Value} (h:In2 w g L [] out v wr):MergedIn w L (.returned v) wr:=
 ⟨v,out,rfl,h.own,h.mrg.done,h.below⟩
theorem In2.size {w wr:World} {g:Nat} {L:List (List ByteArray)} {K:List Hd} {out:List It} {v:Value} (h:In2 w g L K out v wr):out.length+(K.flatMap Hd.its).length=tot L:=by
 have:=h.mrg.perm.length_eq;rw [List.length_append] at this;exact this
theorem In2.next {w wr w2 w5 w6:World} {g:Nat} {L:List (List ByteArray)} {K K2:List Hd} {out:List It} {v v':Value} {x:Hd} (h:In2 w g L K out v wr) (hpop:PopIn w.heap.size g K wr x K2 w2) (h5:Below w.heap.size w w5)
  (hput:PutIn w w.heap.size g x.r x.t K2 w5 w6) (ho:w5.ownsRow w.heap.size 218 2 v' (out.length+1) (out.flatMap itCells++itCells x.it)):
  ∃K',(K'.flatMap Hd.its).length<(K.flatMap Hd.its).length∧In2 w g L K' (out++[x.it]) v' w6:=by
 obtain⟨E,e1,e2,e3,K',q1,q2,q3,q4⟩:=hput;have hxK:x∈K:=hpop.perm.symm.subset (List.mem_cons_self ..);have hits:K'.flatMap Hd.its ~ x.t.map (fun s=>(s,x.r))++K2.flatMap Hd.its:=by
  refine (List.Perm.flatMap_right _ q2).trans ?_;rw [List.flatMap_append,e1];exact List.perm_append_comm
 have hold:K.flatMap Hd.its ~ x.it::K'.flatMap Hd.its:=by
  refine (List.Perm.flatMap_right _ hpop.perm).trans ?_;rw [List.flatMap_cons];exact List.Perm.cons _ hits.symm
 refine⟨K',?_,q1,q3,fun y hy=>?_,h.mrg.next hold fun y hy=>?_,?_,?_,h5.trans (q4.below h5.size)⟩
 ·rw [hold.length_eq,List.length_cons];omega
 ·rcases List.mem_append.1 (q2.subset hy) with hy |hy
  ·exact h.tails y (hpop.perm.symm.subset (List.mem_cons_of_mem _ hy))
  ·exact e3 y hy
 ·obtain⟨k,hk,hyk⟩:=List.mem_flatMap.1 hy
  exact Jrq (hpop.least k hk) (h.tails k hk).2.2.2 y hyk
 ·have:=h.len
  have:=hpop.perm.length_eq;rw [q2.length_eq,List.length_append];rw [List.length_cons] at this;omega
 ·rw [List.length_append,List.flatMap_append,List.flatMap_singleton]
  exact q4.own ho (by unfold HS;decide)
theorem infoItem:(Tryz.prog.info? 218).map (fun i=>(i.zero,i.size,i.bytes))=some (some (.agg #[.string ⟨#[]⟩,.int .i64 0]),2,24):=by kernel_rfl
theorem merge_any (A:Option Addr) (c:Nat) (L:List (List ByteArray)) (w:World) (hL:Rws w w.heap.size A L) (hr:∀l∈L,Ris l) (hlen:L.length≤10000) (htot:tot L≤1000000000):
  Calls prog 115 #[.slice A L.length c] w (MergedIn w L):=by
 obtain⟨i1,hi',hw0,hw1,hw2⟩:=Jap infoItem;obtain⟨W1,hW1⟩:=words.nm (w.alloc (.cells #[.slice none 0 0,fnV] 246));have hb1:=words.b1 hW1;have hs1:Heaps W1 w.heap.size w.heap.size []:=⟨Nat.le_refl _,_,by rw [hW1];exact heap_alloc_new w _,World.ownsRow_nil _ _ _ _⟩
 have HI1:Hid (In1 w w.heap.size L 0 [] W1):=hid ⟨hs1,Hp.zero _,fun h hh=>(by cases hh),by rw [List.take_zero];exact List.Perm.refl _,Nat.le_refl _,hb1⟩;have hty:∀(x:Hd) (w':World),Sem.run prog (Instr.typeAssert (.iface 243 (.agg #[.string x.s,.int .i64 (x.r:Int),.slice x.A x.t.length x.c])) 20 243 false) w'= .ok (.agg #[.string x.s,.int .i64 (x.r:Int),.slice x.A x.t.length x.c]) w':=fun _ _=>by kernel_rfl
 have HL:=hid hL;have HR:=hid hr;unfold fnV at hW1;have HW1:=hid hW1;clear hL hr hb1 hs1 hW1;go_enter func115,ntmps115
 go_upto_region 2 with fail
 rw [←HW1.out];go_wp2_with fail
 go_loopw [12] (fun v wr=>∃(k:Nat) (K:List Hd),v= .int .i64 (k:Int)∧k≤L.length∧Hid (In1 w w.heap.size L k K wr)) (fun v _=>L.length - (intOf v).toNat)
 case atStart=>exact⟨0,[],rfl,Nat.zero_le _,HI1⟩
 case round=>
  obtain⟨k,K,rfl,hk,HI⟩:=hrel;by_cases hlt:k<L.length
  ·obtain⟨N,hN⟩:∃N,L[k]?=some N:=⟨_,List.getElem?_eq_getElem hlt⟩
   obtain⟨b,off,Ai,ci,hA,hb,c0,hrow,hci,hcm⟩:=HL.out k N hN;have cw:wr.cell? ⟨b,off+k,none⟩=some (.slice Ai N.length ci):=(HI.out.below.cell (p:=⟨b,off+k,none⟩) hb).trans c0;have i0:(0:Int)≤(k:Int):=by omega
   have i1:(k:Int)<(L.length:Int):=by omega
   have HC:=hid (Jeg w w.heap.size w.heap.size k ci Ai N K wr hrow hci hcm (HR.out N (List.mem_of_getElem? hN)) HI.out.below HI.out.hs HI.out.below.size HI.out.hp (by have:=HI.out.len;omega));have HN:=hid hN;subst hA;clear hN hrow c0;go_wp2_with fail
   refine HC.out.mono ?_;rintro e w2 ⟨⟨u,rfl⟩,hp2⟩;obtain⟨K',hK'⟩:=HI.out.next HN.out hp2;have HK':=hid hK';clear hK' hp2 HC HI;go_wp2_with fail
   go_roundw
   case rel=>exact⟨k+1,K',by go_num,by omega,HK'⟩
   case measure=>simp [intOf];omega
  ·obtain rfl:k=L.length:=by omega
   have HI2:=hid HI.out.done;clear HI;have hu:=HI2.out.size;rw [List.length_nil,Nat.zero_add] at hu;go_wp2_with fail
   rename World=>wo;go_loopg [6] (tot L) (fun m s6 wr=>∃(K:List Hd) (out:List It),(K.flatMap Hd.its).length≤m∧Hid (In2 w w.heap.size L K out s6 wr))
   case atStart=>exact⟨K,[],Nat.le_of_eq hu,HI2⟩
   case round=>
    obtain⟨K2,out,hm,HI⟩:=hrel;have HLn:=hid (Je8 w.heap.size w.heap.size K2 wr HI.out.hs);rcases hK2:K2.length with _ |n
    ·have hnil:=List.eq_nil_of_length_eq_zero hK2
     subst hnil;have HLn:=hid (show Calls prog 138 #[.pointer (some ⟨w.heap.size,0,none⟩)] wr fun e w'=>e= .returned (.int .i64 0)∧wr=w' from HLn.out);have HF:=hid HI.out.fin;clear HI hK2;go_wp2_with fail
     refine HLn.out.mono ?_;rintro e w2 ⟨rfl,rfl⟩;go_wp2_with fail
     go_ret
     exact HF.out
    ·have HLn:=hid (show Calls prog 138 #[.pointer (some ⟨w.heap.size,0,none⟩)] wr fun e w'=>e= .returned (.int .i64 ((n:Int)+1))∧wr=w' from (Je8 w.heap.size w.heap.size K2 wr HI.out.hs).mono fun e w' ⟨h1,h2⟩=>⟨by rw [h1,hK2];rfl,h2⟩)
     have hks:=HI.out.len;have HP:=hid (Jm3 w.heap.size w.heap.size n K2 wr HI.out.hs hK2 HI.out.hp (by omega));have n0:(0:Int)<(n:Int)+1:=by omega
     clear hK2;go_wp2_with fail
     refine HLn.out.mono ?_;rintro e w2 ⟨rfl,rfl⟩;clear HLn;go_wp2_with fail
     refine HP.out.mono ?_;rintro e w2 ⟨x,K3,rfl,hpop⟩;have hx1:=hty x;obtain⟨W3,hW3⟩:=words.nm (w2.alloc (.cells #[.string x.s,.int .i64 (x.r:Int),.slice x.A x.t.length x.c] 243));have hb23:Below w2.heap.size w2 W3:=words.b1 hW3;have hx3:W3.heap[w2.heap.size]?=some (.cells #[.string x.s,.int .i64 (x.r:Int),.slice x.A x.t.length x.c] 243 (0,0)):=by rw [hW3];exact heap_alloc_new w2 _
     have c0:W3.cell? ⟨w2.heap.size,0,none⟩=some (.string x.s):=Jaa hx3 0;have c1:W3.cell? ⟨w2.heap.size,1,none⟩=some (.int .i64 (x.r:Int)):=Jaa hx3 1;have hbw2:Below w.heap.size w w2:=HI.out.below.trans (hpop.kept.below HI.out.below.size);have hbw3:Below w.heap.size w W3:=hbw2.trans (hb23.mono hbw2.size);have ho3:W3.ownsRow w.heap.size 218 2 u6 out.length (out.flatMap itCells):=(Kept.of_below hb23 (fun _=>False) 0).own (hpop.kept.own HI.out.own (by unfold HS;decide)) (by simp);have hol:out.length≤tot L:=by have:=HI.out.size;omega
     have hs3:=hpop.hs.later hb23;have HS3:=hid hs3;have HX3:=hid hx3;have HO3:=hid ho3;have HB3:=hid hbw3;have HPop:=hid hpop;have HW3:=hid hW3;have HZ:=hid (show w.heap.size≤W3.heap.size from hbw3.size);clear hs3 hx3 ho3 hbw3 hbw2 hb23 hW3 hpop HP;unfold hdV;go_upto_region 10 with fail
     rw [←HW3.out];clear hx1;go_upto_region 11 with (at_builtin;refine wpList_append_lies _ rfl (.tmp 29) (.tmp 32) _ rfl w.heap.size 218 i1 _ 2 24 underlying214 hi' hw0 hw1 hw2 rfl (by omega) _ _ _ rfl (HO3.out.alloc _) ⟨W3.heap.size,0,none⟩ 1 1 (itCells x.it) rfl rfl (World.news_of_block (cs:=#[.string x.s,.int .i64 (x.r:Int)]) (t:=218) (fr:=(0,0)) (heap_alloc_new W3 _)) (Jdd _) (by omega) (by simp only [maxLen];omega) (by omega) (by have:=HZ.out;simp at this ⊢;omega) (W3.heap.size+1) (by simp) ?_;intro gg gc w5 hown5 hgrow5 hat5 hlt5)
     have hk5:Kept (fun t=>t=218) w.heap.size (W3.alloc (.cells #[.string x.s,.int .i64 (x.r:Int)] 218)) w5:=(Kept.refl _ _ _).grown hgrow5 (HO3.out.alloc _) (Nat.le_refl _) rfl;have hb34:Below W3.heap.size W3 (W3.alloc (.cells #[.string x.s,.int .i64 (x.r:Int)] 218)):=(Below.refl _ _).alloc (Nat.le_refl _) _;have hx5:w5.heap[w2.heap.size]?=some (.cells #[.string x.s,.int .i64 (x.r:Int),.slice x.A x.t.length x.c] 243 (0,0)):=hk5.blk ((hb34.block _ (lt_of_some HX3.out)).trans HX3.out) (by decide);have d1:w5.cell? ⟨w2.heap.size,1,none⟩=some (.int .i64 (x.r:Int)):=Jaa hx5 1;have d2:w5.cell? ⟨w2.heap.size,2,none⟩=some (.slice x.A x.t.length x.c):=Jaa hx5 2;have hbw4:=HB3.out.trans (hb34.mono HB3.out.size);have hbw5:Below w.heap.size w w5:=hbw4.trans (hk5.below hbw4.size);have hs5:Heaps w5 w.heap.size w.heap.size K3:=(HS3.out.later hb34).other hk5 (by decide) (by decide);have ht:=HI.out.tails x (HPop.out.perm.symm.subset (List.mem_cons_self ..));have hlen3:=HPop.out.perm.length_eq;rw [List.length_cons] at hlen3;have HC:=hid (Jeg w w.heap.size w.heap.size x.r x.c x.A x.t K3 w5 ht.1 ht.2.1 ht.2.2.1 (List.pairwise_cons.1 ht.2.2.2).2 hbw5 hs5 hbw5.size HPop.out.hp (by omega));have HN:=hid (fun w6 (h6:PutIn w w.heap.size w.heap.size x.r x.t K3 w5 w6)=>HI.out.next HPop.out hbw5 h6 hown5);clear hk5 hb34 hx5 hbw4 hbw5 hs5 ht hlen3 hown5 hgrow5 hat5 c0 c1 HS3 HX3 HO3 HB3 HPop HZ;go_wp2_with fail
     refine HC.out.mono ?_;rintro e w6 ⟨⟨u,rfl⟩,h6⟩;obtain⟨K',hlt',hin'⟩:=HN.out w6 h6;have HK':=hid hin';clear h6 hin' HC HN HI;go_wp2_with fail
     go_roundg ((K'.flatMap Hd.its).length)
     case measure=>omega
     case rel=>exact⟨K',_,Nat.le_refl _,HK'⟩
end Go.Proofs.YtkjpgheealfedaaGreatDoor.heap

namespace Go.Proofs.YtkjpgheealfedaaGreatDoor.heap
open Go.RowKit words

def lastN:Option ByteArray→List It→Option ByteArray
 |p,[]=>p
 |_,y::l=>lastN (some y.1) l
theorem Jgz:∀(l:List It) (p:Option ByteArray) (y:It),lastN p (l++[y])=some y.1
 |[],_,_=>rfl
 |z::l,_,y=>Jgz l (some z.1) y
theorem Jb7:∀(l:List It) (p:Option ByteArray) (r:List It),firstF p (l++r)=firstF p l++firstF (lastN p l) r
 |[],_,_=>rfl
 |y::l,p,r=>by
  rw [List.cons_append,firstF,firstF,lastN];by_cases h:p=some y.1
  ·rw [if_pos h,if_pos h,Jb7 l p r,h]
  ·rw [if_neg h,if_neg h,Jb7 l (some y.1) r,List.cons_append]
def newB (out:List It):Nat→Bool
 |0=>true
 |k+1=>match out[k]?,out[k+1]? with
  |some a,some b=> !(a.1.toList==b.1.toList)
  |_,_=>true
theorem Jg6 {out:List It} {j:Nat} {y x:It} (hy:out[j]?=some y) (hx:out[j+1]?=some x):newB out (j+1)= !(y.1.toList==x.1.toList):=by
 show (match out[j]?,out[j+1]? with
   |some a,some b=> !(a.1.toList==b.1.toList)
   |_,_=>true)=_
 rw [hy,hx]
theorem Jma {out:List It} {k:Nat} {y:It} (hy:out[k]?=some y):lastN none (out.take (k+1))=some y.1:=by
 obtain⟨hk,rfl⟩:=List.getElem?_eq_some_iff.1 hy;rw [List.take_succ_eq_append_getElem hk,Jgz]
theorem Ji8 {out:List It} {k:Nat} {x:It} (hx:out[k]?=some x):firsts (out.take (k+1))=if newB out k=true then firsts (out.take k)++[x] else firsts (out.take k):=by
 obtain⟨hk,hxx⟩:=List.getElem?_eq_some_iff.1 hx;unfold firsts;rw [List.take_succ_eq_append_getElem hk,hxx,Jb7];rcases k with _ |j
 ·rw [List.take_zero]
  rfl
 ·obtain⟨y,hy⟩:∃y,out[j]?=some y:=⟨_,List.getElem?_eq_getElem (by omega)⟩
  rw [Jma hy];rw [Jg6 hy hx];show _++(if some y.1=some x.1 then firstF (some y.1) [] else x::firstF (some x.1) [])=_;by_cases h:y.1=x.1
  ·rw [if_pos (by rw [h]),if_neg (by simp [h])]
   exact List.append_nil _
  ·rw [if_neg (fun hc=>h (Option.some.inj hc)),if_pos (by rw [beq_eq_false_iff_ne.2 (fun hc=>h (toList_inj hc))];rfl)]
   rfl
theorem firsts_le (out:List It):(firsts out).length≤out.length:=by
 have:∀(l:List It) (p:Option ByteArray),(firstF p l).length≤l.length:=by
  intro l
  induction l with
  |nil=>intro p;exact Nat.le_refl _
  |cons y l ih=>
   intro p;rw [firstF];by_cases h:p=some y.1
   ·rw [if_pos h];exact Nat.le_succ_of_le (ih p)
   ·rw [if_neg h];exact Nat.succ_le_succ (ih _)
 exact this out none

def Itms (w:World) (B:Nat) (A:Option Addr) (out:List It):Prop:=
 ∀i x,out[i]?=some x→∃b off,A=some ⟨b,off,none⟩∧b<B∧w.cell? ⟨b,off+i*2,none⟩=some (.string x.1)∧w.cell? ⟨b,off+i*2+1,none⟩=some (.int .i64 (x.2:Int))
theorem Itms.keep {w w':World} {B:Nat} {A:Option Addr} {out:List It} (h:Itms w B A out) (hb:Below B w w'):Itms w' B A out:=fun i x hx=>by
 obtain⟨b,off,h1,h2,h3,h4⟩:=h i x hx;exact⟨b,off,h1,h2,(hb.cell (p:=⟨b,off+i*2,none⟩) h2).trans h3,(hb.cell (p:=⟨b,off+i*2+1,none⟩) h2).trans h4⟩
def FirstIn (w:World) (out:List It) (e:Ending) (w':World):Prop:=
 ∃v,e= .returned v∧w'.ownsRow w.heap.size 218 2 v (firsts out).length ((firsts out).flatMap itCells)∧Below w.heap.size w w'
theorem below_drewN {B:Nat} {a w:World} (h:Below B a w) (n:Nat):Below B a (w.drewN n):=⟨h.os,h.tape,h.output,h.size,h.block⟩
theorem below_grown {w w':World} {B n size:Nat} {e:TypeId} {v:Value} {xs:List Value} (hg:w.grownBy w' v.ownBlock) (ho:w.ownsRow B e size v n xs) (hB:B≤w.heap.size):Below B w w':=
 ⟨hg.os,hg.tape,hg.output,hg.size,fun k hk=>hg.block k (Nat.lt_of_lt_of_le hk hB) fun e=>by have:=(ho.lt k e.symm).1;omega⟩
structure In3 (w:World) (out:List It) (k:Nat) (v:Value) (wr:World):Prop where
 own:wr.ownsRow w.heap.size 218 2 v (firsts (out.take k)).length ((firsts (out.take k)).flatMap itCells)
 below:Below w.heap.size w wr
theorem first_any (A:Option Addr) (c:Nat) (out:List It) (w:World) (hI:Itms w w.heap.size A out) (hlen:out.length≤1000000000):
  Calls prog 114 #[.slice A out.length c] w (FirstIn w out):=by
 obtain⟨ii,hi',hw0,hw1,hw2⟩:=Jap infoItem;have HI:=hid hI;have H3:Hid (In3 w out 0 (.slice none 0 0) w):=hid ⟨World.ownsRow_nil _ _ _ _,Below.refl _ _⟩;clear hI;go_enter func114,ntmps114
 go_wp2_with fail
 go_loopw [8,3] (fun v v3 wr=>∃k:Nat,v= .int .i64 (k:Int)∧k≤out.length∧Hid (In3 w out k v3 wr)) (fun v _ _=>out.length - (intOf v).toNat)
 case atStart=>exact⟨0,rfl,Nat.zero_le _,H3⟩
 case round=>
  obtain⟨k,rfl,hk,HR⟩:=hrel;by_cases hlt:k<out.length
  ·obtain⟨x,hx⟩:∃x,out[k]?=some x:=⟨_,List.getElem?_eq_getElem hlt⟩
   obtain⟨b,off,hA,hb,c0,c1⟩:=HI.out k x hx;subst hA;have d0:wr.cell? ⟨b,off+k*2,none⟩=some (.string x.1):=(HR.out.below.cell (p:=⟨b,off+k*2,none⟩) hb).trans c0;have d1:wr.cell? ⟨b,off+k*2+1,none⟩=some (.int .i64 (x.2:Int)):=(HR.out.below.cell (p:=⟨b,off+k*2+1,none⟩) hb).trans c1;have i0:(0:Int)≤(k:Int):=by omega
   have i1:(k:Int)<(out.length:Int):=by omega
   have hn:=Ji8 hx;have hfl:(firsts (out.take k)).length≤1000000000:=Nat.le_trans (firsts_le _) (by rw [List.length_take];omega);obtain⟨W1,hW1⟩:=words.nm (wr.alloc (.cells #[.string x.1,.int .i64 (x.2:Int)] 218));have hb1:Below wr.heap.size wr W1:=words.b1 hW1;have hz1:W1.heap.size=wr.heap.size+1:=by rw [hW1];simp
   have hbk:W1.heap[wr.heap.size]?=some (.cells #[.string x.1,.int .i64 (x.2:Int)] 218 (0,0)):=by rw [hW1];exact heap_alloc_new wr _
   have e0:W1.cell? ⟨wr.heap.size,0,none⟩=some (.string x.1):=Jaa hbk 0;have e1:W1.cell? ⟨wr.heap.size,1,none⟩=some (.int .i64 (x.2:Int)):=Jaa hbk 1;have hbw:Below w.heap.size w W1:=HR.out.below.trans (hb1.mono HR.out.below.size);have hown1:W1.ownsRow w.heap.size 218 2 u3 (firsts (out.take k)).length ((firsts (out.take k)).flatMap itCells):=(Kept.of_below hb1 (fun _=>False) 0).own HR.out.own (by simp);have HX:=hid hx;have HN:=hid hn;have HB1:=hid hbw;have HO1:=hid hown1;have HW1:=hid hW1;have HBK:=hid hbk;clear hx hn hbw hown1 hW1 hbk hb1 c0 c1 e0 e1 HR;go_upto_region 5 with fail
   rw [←HW1.out];have e0:W1.cell? ⟨wr.heap.size,0,none⟩=some (.string x.1):=Jaa HBK.out 0;rcases hnb:newB out k with _ |_
   ·rcases k with _ |j
    ·cases hnb
    ·obtain⟨y,hy⟩:∃y,out[j]?=some y:=⟨_,List.getElem?_eq_getElem (by omega)⟩
     obtain⟨b',off',hA',hb',c0',_⟩:=HI.out j y hy;injection hA' with hA';injection hA' with hA1 hA2;subst hA1 hA2;have g0:W1.cell? ⟨b,off+j*2,none⟩=some (.string y.1):=(HB1.out.cell (p:=⟨b,off+j*2,none⟩) hb').trans c0';have j0:(0:Int)≤(j:Int):=by omega
     have j1:(j:Int)<(out.length:Int):=by omega
     have j2:((j:Int)+1==0)=false:=by rw [beq_eq_false_iff_ne];omega
     rw [Jg6 hy HX.out] at hnb;have hne:(y.1.toList==x.1.toList)=true:=by simpa using hnb
     have hne2:(y.1.toList !=x.1.toList)=false:=by rw [bne,hne];rfl
     have hne3:=eq_of_beq hne;have HF:Hid (∀q,In3 w out (j+1+1) u3 (W1.drewN q)):=hid fun q=>⟨by
       rw [HN.out,if_neg (by rw [Jg6 hy HX.out,hne];simp)];exact HO1.out,below_drewN HB1.out q⟩
     clear hnb hy;go_quiet (fail)
     go_wp2_with fail
     go_roundw
     case rel=>exact⟨j+1+1,by go_num,by omega,hid (HF.out _)⟩
     case measure=>simp [intOf];omega
   ·have HT:=hid (show firsts (out.take (k+1))=firsts (out.take k)++[x] by rw [HN.out,if_pos hnb])
    rcases k with _ |j
    ·clear hnb
     go_quiet (fail)
     generalize hq:W1.drewN _=W2;have HO2:Hid (W2.ownsRow w.heap.size 218 2 u3 (firsts (out.take (0))).length ((firsts (out.take (0))).flatMap itCells)):=by rw [←hq];exact HO1
     have HZ:Hid (w.heap.size≤W2.heap.size):=by rw [←hq];exact hid HB1.out.size
     have HB2:Hid (Below w.heap.size w W2):=by rw [←hq];exact hid (below_drewN HB1.out _)
     have q0:W2.cell? ⟨wr.heap.size,0,none⟩=some (.string x.1):=by rw [←hq];exact e0
     have q1:W2.cell? ⟨wr.heap.size,1,none⟩=some (.int .i64 (x.2:Int)):=by rw [←hq];exact Jaa HBK.out 1
     clear hq;go_wp2_with (at_builtin;refine wpList_append_lies _ rfl (.tmp 26) (.tmp 28) _ rfl w.heap.size 218 ii _ 2 24 underlying214 hi' hw0 hw1 hw2 rfl (by omega) _ _ _ rfl (HO2.out.alloc _) ⟨W2.heap.size,0,none⟩ 1 1 (itCells x) rfl rfl (World.news_of_block (cs:=#[.string x.1,.int .i64 (x.2:Int)]) (t:=218) (fr:=(0,0)) (heap_alloc_new W2 _)) (Jdd _) (by omega) (by simp only [maxLen];omega) (by omega) (by have:=HZ.out;simp at this ⊢;omega) (W2.heap.size+1) (by simp) ?_;intro gg gc w5 hown5 hgrow5 hat5 hlt5)
     have HE:Hid (In3 w out (0+1) (.slice (some ⟨gg,0,none⟩) ((firsts (out.take (0))).length+1) gc) w5):=hid ⟨by
       rw [HT.out,List.length_append,List.flatMap_append,List.flatMap_singleton];exact hown5,(HB2.out.alloc HB2.out.size _).trans ((below_grown hgrow5 (HO2.out.alloc _) (HB2.out.alloc HB2.out.size _).size))⟩
     clear hown5 hgrow5 hat5 hlt5;go_roundw
     case rel=>exact⟨0+1,by go_num,by omega,HE⟩
     case measure=>simp [intOf];omega
    ·obtain⟨y,hy⟩:∃y,out[j]?=some y:=⟨_,List.getElem?_eq_getElem (by omega)⟩
     obtain⟨b',off',hA',hb',c0',_⟩:=HI.out j y hy;injection hA' with hA';injection hA' with hA1 hA2;subst hA1 hA2;have g0:W1.cell? ⟨b,off+j*2,none⟩=some (.string y.1):=(HB1.out.cell (p:=⟨b,off+j*2,none⟩) hb').trans c0';have j0:(0:Int)≤(j:Int):=by omega
     have j1:(j:Int)<(out.length:Int):=by omega
     have j2:((j:Int)+1==0)=false:=by rw [beq_eq_false_iff_ne];omega
     rw [Jg6 hy HX.out] at hnb;have hne:(y.1.toList==x.1.toList)=false:=by simpa using hnb
     have hne2:(y.1.toList !=x.1.toList)=true:=by rw [bne,hne];rfl
     clear hnb hy;go_quiet (fail)
     generalize hq:W1.drewN _=W2;have HO2:Hid (W2.ownsRow w.heap.size 218 2 u3 (firsts (out.take (j+1))).length ((firsts (out.take (j+1))).flatMap itCells)):=by rw [←hq];exact HO1
     have HZ:Hid (w.heap.size≤W2.heap.size):=by rw [←hq];exact hid HB1.out.size
     have HB2:Hid (Below w.heap.size w W2):=by rw [←hq];exact hid (below_drewN HB1.out _)
     have q0:W2.cell? ⟨wr.heap.size,0,none⟩=some (.string x.1):=by rw [←hq];exact e0
     have q1:W2.cell? ⟨wr.heap.size,1,none⟩=some (.int .i64 (x.2:Int)):=by rw [←hq];exact Jaa HBK.out 1
     clear hq;go_wp2_with (at_builtin;refine wpList_append_lies _ rfl (.tmp 26) (.tmp 28) _ rfl w.heap.size 218 ii _ 2 24 underlying214 hi' hw0 hw1 hw2 rfl (by omega) _ _ _ rfl (HO2.out.alloc _) ⟨W2.heap.size,0,none⟩ 1 1 (itCells x) rfl rfl (World.news_of_block (cs:=#[.string x.1,.int .i64 (x.2:Int)]) (t:=218) (fr:=(0,0)) (heap_alloc_new W2 _)) (Jdd _) (by omega) (by simp only [maxLen];omega) (by omega) (by have:=HZ.out;simp at this ⊢;omega) (W2.heap.size+1) (by simp) ?_;intro gg gc w5 hown5 hgrow5 hat5 hlt5)
     have HE:Hid (In3 w out (j+1+1) (.slice (some ⟨gg,0,none⟩) ((firsts (out.take (j+1))).length+1) gc) w5):=hid ⟨by
       rw [HT.out,List.length_append,List.flatMap_append,List.flatMap_singleton];exact hown5,(HB2.out.alloc HB2.out.size _).trans ((below_grown hgrow5 (HO2.out.alloc _) (HB2.out.alloc HB2.out.size _).size))⟩
     clear hown5 hgrow5 hat5 hlt5;go_roundw
     case rel=>exact⟨j+1+1,by go_num,by omega,HE⟩
     case measure=>simp [intOf];omega
  ·obtain rfl:k=out.length:=by omega
   have HF:Hid (FirstIn w out (.returned u3) wr):=hid ⟨_,rfl,by have:=HR.out.own;rwa [List.take_length] at this,HR.out.below⟩;clear HR;go_wp2_with fail
   go_ret
   exact HF.out
end Go.Proofs.YtkjpgheealfedaaGreatDoor.heap
