import Derived.Test.YtekekhgjobahaaaGreatDoorC8
import Derived.CellFam
set_option maxRecDepth 100000
namespace Go.Proofs.YtekekhgjobahaaaGreatDoor.tal
open Go.RowKit words

def Recs (w:World) (A:Option Addr) (L:List Rc):Prop:=∀i r,L[i]?=some r→∃b off,A=some ⟨b,off,none⟩∧b<w.heap.size∧w.rangeAt b (off+i*19) r.cs
theorem Recs.later {w w':World} {A:Option Addr} {L:List Rc} (h:Recs w A L) (hb:Below w.heap.size w w'):Recs w' A L:=fun i r hr=>by
 obtain⟨b,off,h1,h2,h3⟩:=h i r hr;exact⟨b,off,h1,Nat.lt_of_lt_of_le h2 hb.size,fun j v hv=>(hb.cell (p:=⟨b,off+i*19+j,none⟩) h2).trans (h3 j v hv)⟩
theorem range_box {w:World} {g:Nat} {r:Rc} (hb:w.heap[g]?=some (.cells #[.int .i64 r.cl,.int .i64 r.ix,.int .i64 r.k,.string r.p,.int .i64 r.o,.int .i64 r.n,.int .i64 r.i,.string r.g,.int .i64 r.e,.int .i64 r.rk,.int .i64 r.z,.int .i64 r.wh,.int .i64 r.id,.string r.x,.slice r.A r.N.length r.c,.bool r.fin,.int .i64 r.ca,.int .i64 r.ma,.int .i64 r.re] 59 (0,0))):w.rangeAt g 0 r.cs:=fun j v hv=>by
 rw [Jaa hb,Nat.zero_add];show r.cs.toArray[j]?=some v;rw [List.getElem?_toArray];exact hv
theorem below_cells {B g:Nat} {a:World} (hg:B≤g):∀(vs:List Value) (o:Nat) (w:World),Below B a w→Below B a (w.setCells g o vs)
 |[],_,_,h=>h
 |v::r,o,w,h=>by
  rw [World.setCells];exact below_cells hg r (o+1) _ (h.setCell (p:=⟨g,o,none⟩) hg v)
end Go.Proofs.YtekekhgjobahaaaGreatDoor.tal
