import Derived.Test.YtekekhgjobahaaaGreatDoorG27
import Derived.Lib.AppendZeros
set_option maxRecDepth 100000
open Go.Lib (hid)
open Go.Proofs.Tryz
namespace Go.Proofs.YtekekhgjobahaaaGreatDoor.stk
open Go.RowKit words ext name tre

def Rows (w:World) (B:Nat) (A:Option Addr) (L:List (Nat×Int)):Prop:=
 ∀(i:Nat) (x:Nat×Int),L[i]?=some x→∃b off,A=some ⟨b,off,none⟩∧b<B∧w.cell? ⟨b,off+i*2,none⟩=some (.pointer (some ⟨x.1,0,none⟩))∧w.cell? ⟨b,off+i*2+1,none⟩=some (.int .i64 x.2)
theorem Rows.keep {w w':World} {B:Nat} {A:Option Addr} {L:List (Nat×Int)} (h:Rows w B A L) (hb:Below B w w'):Rows w' B A L:=fun i x hx=>by
 obtain⟨b,off,h1,h2,h3,h4⟩:=h i x hx;exact⟨b,off,h1,h2,(hb.cell (p:=⟨b,off+i*2,none⟩) h2).trans h3,(hb.cell (p:=⟨b,off+i*2+1,none⟩) h2).trans h4⟩
theorem Rows.more {w:World} {B B':Nat} {A:Option Addr} {L:List (Nat×Int)} (h:Rows w B A L) (hB:B≤B'):Rows w B' A L:=fun i x hx=>by
 obtain⟨b,off,h1,h2,h3⟩:=h i x hx;exact⟨b,off,h1,Nat.lt_of_lt_of_le h2 hB,h3⟩
def stkV (A:Option Addr) (n c:Nat) (ad:Int):Value:= .agg #[.slice A n c,.int .i64 ad]
theorem slen_any (A:Option Addr) (n c:Nat) (ad:Int) (w:World):Calls prog 37 #[stkV A n c ad] w fun e w'=>e= .returned (.int .i64 (n:Int))∧Below w.heap.size w w':=by
 obtain⟨W1,hW1⟩:=words.nm (w.alloc (.cells #[.slice A n c,.int .i64 ad] 38));have hb1:=words.b1 hW1;have hs1:W1.heap[w.heap.size]?=some (.cells #[.slice A n c,.int .i64 ad] 38 (0,0)):=by rw [hW1];exact heap_alloc_new w _
 have s0:W1.cell? ⟨w.heap.size,0,none⟩=some (.slice A n c):=Jaa hs1 0;have HW1:=hid hW1;have HB1:=hid hb1;clear hW1 hb1 hs1;unfold stkV;go_enter func37,ntmps37
 go_upto_region 1 with fail
 rw [←HW1.out];go_wp2_with fail
 go_ret
 exact⟨rfl,HB1.out⟩

def rowC (x:Nat×Int):List Value:=[.pointer (some ⟨x.1,0,none⟩),.int .i64 x.2]
theorem Jf6 (L:List (Nat×Int)):(L.flatMap rowC).length=L.length*2:=by
 induction L with
 |nil=>rfl
 |cons h K ih=>rw [List.flatMap_cons,List.length_append,ih,List.length_cons];simp [rowC];omega
theorem Ji7:∀{L:List (Nat×Int)} {k:Nat} {x:Nat×Int},L[k]?=some x→∀j,j<2→(L.flatMap rowC)[k*2+j]?=(rowC x)[j]?
 |[],k,x,hk,_,_=>by simp at hk
 |y::L,k,x,hk,j,hj=>by
  rw [List.flatMap_cons];rcases k with _ |k
  ·obtain rfl:y=x:=by simpa using hk
   rw [List.getElem?_append_left (by simp [rowC];omega),Nat.zero_mul,Nat.zero_add]
  ·rw [List.getElem?_append_right (by simp [rowC];omega),←Ji7 (L:=L) (k:=k) (by simpa using hk) j hj]
   congr 1;simp [rowC];omega

theorem Rows.lies {w:World} {A:Option Addr} {L:List (Nat×Int)} (h:Rows w w.heap.size A L):Lies w A (L.flatMap rowC):=fun j u hj=>by
 have hlt:=(List.getElem?_eq_some_iff.1 hj).1;rw [Jf6] at hlt;obtain⟨x,hx⟩:∃x,L[j / 2]?=some x:=⟨_,List.getElem?_eq_getElem (by omega)⟩
 obtain⟨b,off,h1,h2,h3,h4⟩:=h _ x hx;refine⟨b,off,h1,h2,?_⟩;have e:=Ji7 hx (j % 2) (Nat.mod_lt _ (by omega));rw [show j / 2*2+j % 2=j by omega,hj] at e;rcases (show j % 2=0∨j % 2=1 by omega) with hm |hm
 ·rw [hm] at e
  rw [show off+j=off+j / 2*2 by omega,h3];exact e.symm
 ·rw [hm] at e
  rw [show off+j=off+j / 2*2+1 by omega,h4];exact e.symm

theorem over2 {w:World} {g:Nat} {T:TypeId} {c0 c1 u0 u1:Value} (h:w.heap[g]?=some (.cells #[c0,c1] T (0,0))):
  ((w.setCell ⟨g,0,none⟩ u0).setCell ⟨g,1,none⟩ u1).heap[g]?=some (.cells #[u0,u1] T (0,0)):=
 heap_setCell_same _ g 1 _ _ u1 (heap_setCell_same w g 0 _ _ u0 h)

end Go.Proofs.YtekekhgjobahaaaGreatDoor.stk
