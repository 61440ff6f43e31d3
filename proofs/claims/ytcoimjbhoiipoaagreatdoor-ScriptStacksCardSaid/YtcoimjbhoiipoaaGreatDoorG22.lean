import Derived.Test.YtcoimjbhoiipoaaGreatDoorG21
set_option maxRecDepth 100000
namespace Go.Proofs.YtcoimjbhoiipoaaGreatDoor.tre
open Go.RowKit words ext name

def Own (E:TypeId) (size n:Nat) (xs:List Value) (w:World) (e:Ending) (w':World):Prop:=
 ∃A c,e= .returned (.slice A n c)∧n≤c∧(A=none→n=0∧c=0)∧w'.ownsRow w.heap.size E size (.slice A n c) n xs∧Below w.heap.size w w'
theorem Jqi {E:TypeId} {size n:Nat} {xs:List Value} {w w':World} {e:Ending} (h:Copied E size n xs w e w'):Own E size n xs w e w':=by
 obtain⟨⟨A,c,h1,h2,h3,h4⟩,h5⟩:=h;exact⟨A,c,h1,h2,h3,h4,h5⟩
theorem Below.lies {w w':World} {A:Option Addr} {xs:List Value} (h:Lies w A xs) (hb:Below w.heap.size w w'):Lies w' A xs:=fun j u hu=>by
 obtain⟨b,off,h1,h2,h3⟩:=h j u hu;exact⟨b,off,h1,Nat.lt_of_lt_of_le h2 hb.size,(hb.cell (p:=⟨b,off+j,none⟩) h2).trans h3⟩
theorem Box.set {w:World} {g:Nat} {n:Nd} {r:Raw} (h:Box w g n r) (i:Nat) (v:Value) (r':Raw) (he:(rawCells n r).setIfInBounds i v=rawCells n r'):Box (w.setCell ⟨g,i,none⟩ v) g n r':=by
 unfold Box;rw [←he];exact heap_setCell_same w g i _ _ v h
theorem Box.far {w:World} {g:Nat} {n:Nd} {r:Raw} (h:Box w g n r) (p:Addr) (v:Value) (hne:g≠p.block):Box (w.setCell p v) g n r:=
 (heap_setCell_other w p g v hne).trans h
theorem Box.over {w:World} {g:Nat} {n m:Nd} {r q:Raw} (h:Box w g n r):Box (w.setCells g 0 (rawCells m q).toList) g m q:=by
 have h0:=heap_setCell_same w g 0 _ _ (.int .i64 m.K) h;have h1:=heap_setCell_same _ g 1 _ _ (.bool m.O) h0;have h2:=heap_setCell_same _ g 2 _ _ (.slice q.An m.N.length q.cn) h1;have h3:=heap_setCell_same _ g 3 _ _ (.slice q.Ai m.I.length q.ci) h2;have h4:=heap_setCell_same _ g 4 _ _ (.int .i64 m.S) h3;have h5:=heap_setCell_same _ g 5 _ _ (.slice q.Ae m.E.length q.ce) h4;have h6:=heap_setCell_same _ g 6 _ _ (.string m.T) h5;have he:w.setCells g 0 (rawCells m q).toList=((((((w.setCell ⟨g,0,none⟩ (.int .i64 m.K)).setCell ⟨g,1,none⟩ (.bool m.O)).setCell ⟨g,2,none⟩ (.slice q.An m.N.length q.cn)).setCell ⟨g,3,none⟩ (.slice q.Ai m.I.length q.ci)).setCell ⟨g,4,none⟩ (.int .i64 m.S)).setCell ⟨g,5,none⟩ (.slice q.Ae m.E.length q.ce)).setCell ⟨g,6,none⟩ (.string m.T):=by
  unfold rawCells;simp only [World.setCells,Nat.reduceAdd,Nat.zero_add]
 unfold Box;rw [he,h6];unfold rawCells;simp
theorem Kept.start {w w3 W3:World} {n:Nd} {q:Raw} {A:Option Addr} {c:Nat} {rs:Nat→Raw} {w2:World}
  (hbox:Box W3 w.heap.size n q) (hout:Box W3 (w.heap.size+1) nd0 raw0) (hb:Below w.heap.size w W3) (hsz:w.heap.size+1<w2.heap.size) (hle:w2.heap.size≤w3.heap.size)
  (hW:W3=w3.setCell ⟨w.heap.size,3,none⟩ (.slice A n.I.length c)) (hq:q.Ai=A)
  (hnames:TxtIn W3 (fun b=>w.heap.size+1<b∧b<w2.heap.size) q.An n.N) (hexts:ExtIn W3 (fun b=>w.heap.size+1<b∧b<w2.heap.size) q.Ae n.E)
  (hown:w3.ownsRow w2.heap.size 28 7 (.slice A n.I.length c) n.I.length (rowCells n.I rs)) (hit:∀i x,n.I[i]?=some x→NdAt w w.heap.size x (rs i)) (hfit:Fit n q):
  ∃g,Kept w W3 n q g 0:=by
 have hs:W3.heap.size=w3.heap.size:=by rw [hW,World.size_setCell]
 have oth:∀b,b≠w.heap.size→W3.heap[b]?=w3.heap[b]?:=fun b hb=>by rw [hW];exact heap_setCell_other w3 _ b _ hb
 rcases hown.2 with⟨_,h0⟩ |⟨g,cap,cur,hv,h1,h2,_,_,_,_⟩
 ·exact⟨w2.heap.size,hbox,hout,hb,hsz,by omega,hnames,hexts,fun i x hx=>by have:=(List.getElem?_eq_some_iff.1 hx).1;omega,hfit⟩
 ·injection hv with hA
  have hg:=lt_of_some h2;refine⟨g,hbox,hout,hb,by omega,by omega,hnames.keep fun b hk=>⟨rfl,hk.1,by omega⟩,hexts.keep fun b hk=>⟨rfl,hk.1,by omega⟩,fun i x hx=>?_,hfit⟩;refine⟨hq.trans hA,⟨cur,(oth g (by omega)).trans h2⟩,rs i,fun h=>by omega,fun _=>hit i x hx,fun k v hk=>?_⟩;obtain⟨g',cur',h1',_,_,h2',h3'⟩:=own_cell hown (Jaz (rs:=rs) hx k v hk);rw [hA] at h1';injection h1' with h1';injection h1' with h1';subst h1';exact (World.cell?_of_block (a:=⟨g,i*7+k,none⟩) (oth g (by omega))).trans h3'


def Asc (N:List ByteArray):Prop:=∀(i j:Nat) (x y:ByteArray),i<j→N[i]?=some x→N[j]?=some y→lessB x y=true
theorem Jjr {a b c:ByteArray} (h1:lessB a b=true) (h2:lessB b c=true):lessB a c=true:=Jcg h1 h2
theorem Jf5 (a:ByteArray):lessB a a=false:=Jc6 _
theorem Jel:∀{N:List ByteArray} {p:ByteArray},riseFrom (some p) N=true→∀(j:Nat) (y:ByteArray),N[j]?=some y→lessB p y=true
 |[],_,_,j,y,h=>by simp at h
 |s::L,p,h,0,y,hy=>by
  obtain rfl:s=y:=by simpa using hy
  rw [Jat,Bool.and_eq_true,Bool.and_eq_true] at h;exact h.1.2
 |s::L,p,h,j+1,y,hy=>by
  rw [Jat,Bool.and_eq_true,Bool.and_eq_true] at h;exact Jjr h.1.2 (Jel h.2 j y (by simpa using hy))
theorem Jem:∀{N:List ByteArray} {p:Option ByteArray},riseFrom p N=true→Asc N
 |[],_,_=>fun i j x y _ h=>by simp at h
 |s::L,p,h=>fun i j x y hij hx hy=>by
  rw [Jat,Bool.and_eq_true] at h;rcases j with _ |j
  ·omega
  rcases i with _ |i
  ·obtain rfl:s=x:=by simpa using hx
   exact Jel h.2 j y (by simpa using hy)
  ·exact Jem h.2 i j x y (by omega) (by simpa using hx) (by simpa using hy)
theorem Jmr {N:List ByteArray} (h:riseB N=true):Asc N:=Jem h
theorem Asc.one {N:List ByteArray} (h:Asc N) {i j:Nat} {s:ByteArray} (hi:N[i]?=some s) (hj:N[j]?=some s):i=j:=by
 rcases Nat.lt_trichotomy i j with hl |hl |hl
 ·have:=h i j s s hl hi hj
  rw [Jf5] at this;cases this
 ·exact hl
 ·have:=h j i s s hl hj hi
  rw [Jf5] at this;cases this

def Hit (N:List ByteArray) (s:ByteArray) (w:World) (e:Ending) (w':World):Prop:=
 ((∃i:Nat,e= .returned (.tuple #[.int .i64 i,.bool true])∧N[i]?=some s)∨(∃i:Nat,e= .returned (.tuple #[.int .i64 i,.bool false])∧∀j:Nat,N[j]?≠some s))∧w=w'


theorem below_setCells {w:World} {B g:Nat} (hg:B≤g):∀(vs:List Value) (o:Nat) (w1:World),Below B w w1→Below B w (w1.setCells g o vs)
 |[],_,_,h=>h
 |v::vs,o,w1,h=>by
  rw [World.setCells];exact below_setCells hg vs (o+1) _ (h.setCell (p:=⟨g,o,none⟩) hg v)

end Go.Proofs.YtcoimjbhoiipoaaGreatDoor.tre
