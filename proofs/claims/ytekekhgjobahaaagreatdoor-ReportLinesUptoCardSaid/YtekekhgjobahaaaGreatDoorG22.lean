import Derived.Test.YtekekhgjobahaaaGreatDoorG20
import Derived.Lib.LazyBuf
import Derived.Test.YtekekhgjobahaaaGreatDoorG21
import Derived.Deep.Upon
set_option maxRecDepth 100000
namespace Go.Proofs.YtekekhgjobahaaaGreatDoor.tre
open Go.RowKit words ext name

def TxtIn (w:World) (P:Nat→Prop) (A:Option Addr) (Q:List ByteArray):Prop:=
 ∀i x,Q[i]?=some x→(∃b off,A=some ⟨b,off,none⟩∧P b∧w.cell? ⟨b,off+i,none⟩=some (.string x))∧x.size≤140737488355328
def ExtIn (w:World) (P:Nat→Prop) (A:Option Addr) (L:List Ex):Prop:=
 ∀i x,L[i]?=some x→(∃b off,A=some ⟨b,off,none⟩∧P b∧w.cell? ⟨b,off+i*2,none⟩=some (.int .i64 x.O)∧w.cell? ⟨b,off+i*2+1,none⟩=some (.string x.D))∧
  -9223372036854775808≤x.O∧x.O≤9223372036854775807∧x.D.size≤140737488355328
inductive NdIn (w:World) (P:Nat→Prop):Nd→Raw→Prop
 |mk {n:Nd} {r:Raw} (rs:Nat→Raw) (fit:Fit n r) (names:TxtIn w P r.An n.N) (exts:ExtIn w P r.Ae n.E)
   (cells:∀i x,n.I[i]?=some x→∃b off,r.Ai=some ⟨b,off,none⟩∧P b∧∀j v,(rawCells x (rs i))[j]?=some v→w.cell? ⟨b,off+i*7+j,none⟩=some v)
   (items:∀i x,n.I[i]?=some x→NdIn w P x (rs i)):NdIn w P n r
theorem NdIn.keep {w w':World} {P P':Nat→Prop} {n:Nd} {r:Raw} (h:NdIn w P n r) (hk:∀b,P b→w'.heap[b]?=w.heap[b]?∧P' b):NdIn w' P' n r:=by
 have hc:∀b o,P b→w'.cell? ⟨b,o,none⟩=w.cell? ⟨b,o,none⟩:=fun b o hb=>World.cell?_of_block (hk b hb).1
 induction h with
 |mk rs fit names exts cells items ih=>
  refine .mk rs fit (fun i x hx=>?_) (fun i x hx=>?_) (fun i x hx=>?_) ih
  ·obtain⟨⟨b,off,h1,h2,h3⟩,h4⟩:=names i x hx
   exact⟨⟨b,off,h1,(hk b h2).2,(hc b _ h2).trans h3⟩,h4⟩
  ·obtain⟨⟨b,off,h1,h2,h3,h3'⟩,h4⟩:=exts i x hx
   exact⟨⟨b,off,h1,(hk b h2).2,(hc b _ h2).trans h3,(hc b _ h2).trans h3'⟩,h4⟩
  ·obtain⟨b,off,h1,h2,h3⟩:=cells i x hx
   exact⟨b,off,h1,(hk b h2).2,fun j v hj=>(hc b _ h2).trans (h3 j v hj)⟩
theorem NdIn.at_ {w:World} {P:Nat→Prop} {B:Nat} {n:Nd} {r:Raw} (h:NdIn w P n r) (hP:∀b,P b→b<B):NdAt w B n r:=by
 induction h with
 |mk rs fit names exts cells items ih=>
  refine .mk rs fit (fun i x hx=>?_) (fun i x hx=>?_) (fun i x hx=>?_) ih
  ·obtain⟨⟨b,off,h1,h2,h3⟩,h4⟩:=names i x hx
   exact⟨⟨b,off,h1,hP b h2,h3⟩,h4⟩
  ·obtain⟨⟨b,off,h1,h2,h3,h3'⟩,h4⟩:=exts i x hx
   exact⟨⟨b,off,h1,hP b h2,h3,h3'⟩,h4⟩
  ·obtain⟨b,off,h1,h2,h3⟩:=cells i x hx
   exact⟨b,off,h1,hP b h2,h3⟩

def Lies (w:World) (A:Option Addr) (xs:List Value):Prop:=∀j u,xs[j]?=some u→∃b off,A=some ⟨b,off,none⟩∧b<w.heap.size∧w.cell? ⟨b,off+j,none⟩=some u
def Copied (E:TypeId) (size n:Nat) (xs:List Value) (w:World) (e:Ending) (w':World):Prop:=
 (∃A c,e= .returned (.slice A n c)∧n≤c∧(A=none→n=0∧c=0)∧w'.ownsRow w.heap.size E size (.slice A n c) n xs)∧Below w.heap.size w w'
theorem own_facts {w:World} {B:Nat} {E:TypeId} {size n:Nat} {v:Value} {xs:List Value} (h:w.ownsRow B E size v n xs):∃A c,v= .slice A n c∧n≤c∧(A=none→n=0∧c=0):=by
 rcases h.2 with⟨rfl,rfl⟩ |⟨g,cap,cur,rfl,_,_,hle,_⟩
 ·exact⟨none,0,rfl,Nat.le_refl _,fun _=>⟨rfl,rfl⟩⟩
 ·exact⟨_,cap,rfl,hle,fun h=>by cases h⟩
theorem add_place (b off j:Nat):(⟨b,off,none⟩:Addr).add j=⟨b,off+j,none⟩:=by unfold Addr.add;split<;>simp_all

def rowCells:List Nd→(Nat→Raw)→List Value
 |[],_=>[]
 |x::L,rs=>(rawCells x (rs 0)).toList++rowCells L (fun i=>rs (i+1))
theorem Jce (x:Nd) (r:Raw):(rawCells x r).toList.length=7:=rfl
theorem Jcx:∀{L:List Nd} {rs:Nat→Raw} {i:Nat} {x:Nd},L[i]?=some x→∀j v,(rawCells x (rs i))[j]?=some v→(rowCells L rs)[i*7+j]?=some v
 |[],_,i,x,h,_,_,_=>by simp at h
 |y::L,rs,0,x,h,j,v,hj=>by
  obtain rfl:y=x:=by simpa using h
  have hlt:j<7:=by
   have:=(Array.getElem?_eq_some_iff.1 hj).1;exact this
  rw [rowCells,Nat.zero_mul,Nat.zero_add,List.getElem?_append_left (by rw [Jce];exact hlt),Array.getElem?_toList];exact hj
 |y::L,rs,i+1,x,h,j,v,hj=>by
  have:=Jcx (L:=L) (rs:=fun i=>rs (i+1)) (i:=i) (x:=x) (by simpa using h) j v hj;rw [rowCells,List.getElem?_append_right (by rw [Jce];omega),Jce,show (i+1)*7+j - 7=i*7+j by omega];exact this

def nd0:Nd:= .mk 0 false [] [] 0 [] ⟨#[]⟩
def raw0:Raw:=⟨none,0,none,0,none,0⟩
theorem TxtIn.keep {w w':World} {P P':Nat→Prop} {A:Option Addr} {Q:List ByteArray} (h:TxtIn w P A Q) (hk:∀b,P b→w'.heap[b]?=w.heap[b]?∧P' b):TxtIn w' P' A Q:=fun i x hx=>by
 obtain⟨⟨b,off,h1,h2,h3⟩,h4⟩:=h i x hx;exact⟨⟨b,off,h1,(hk b h2).2,(World.cell?_of_block (hk b h2).1).trans h3⟩,h4⟩
theorem ExtIn.keep {w w':World} {P P':Nat→Prop} {A:Option Addr} {L:List Ex} (h:ExtIn w P A L) (hk:∀b,P b→w'.heap[b]?=w.heap[b]?∧P' b):ExtIn w' P' A L:=fun i x hx=>by
 obtain⟨⟨b,off,h1,h2,h3,h3'⟩,h4⟩:=h i x hx;exact⟨⟨b,off,h1,(hk b h2).2,(World.cell?_of_block (hk b h2).1).trans h3,(World.cell?_of_block (hk b h2).1).trans h3'⟩,h4⟩

theorem Jkh {w:World} {B n c size:Nat} {E:TypeId} {A:Option Addr} {xs:List Value} (h:w.ownsRow B E size (.slice A n c) n xs) {j:Nat} {u:Value} (hj:xs[j]?=some u):
  ∃g cur,A=some ⟨g,0,none⟩∧B≤g∧g<w.heap.size∧w.heap[g]?=some (.cells cur E (0,0))∧w.cell? ⟨g,j,none⟩=some u:=by
 rcases h.2 with⟨_,h0⟩ |⟨g,cap,cur,hv,h1,h2,_,_,_,h6⟩
 ·have:=(List.getElem?_eq_some_iff.1 hj).1
  rw [h.1,h0,Nat.zero_mul] at this;omega
 ·injection hv with hA
  refine⟨g,cur,hA,h1,lt_of_some h2,h2,?_⟩;have hlt:=(List.getElem?_eq_some_iff.1 hj).1;rw [h.1] at hlt;rw [←h6,List.getElem?_take_of_lt hlt,Array.getElem?_toList] at hj;unfold World.cell?;rw [h2];simpa using hj
theorem size_setCells (b:Nat):∀(vs:List Value) (o:Nat) (w:World),(w.setCells b o vs).heap.size=w.heap.size
 |[],_,_=>rfl
 |v::r,o,w=>by rw [World.setCells,size_setCells b r,World.size_setCell]
theorem Jaz (g:Nat) (T:TypeId):∀(vs:List Value) (o:Nat) (w:World) (cur:Array Value),w.heap[g]?=some (.cells cur T (0,0))→∃cur',(w.setCells g o vs).heap[g]?=some (.cells cur' T (0,0))
 |[],_,_,cur,h=>⟨cur,h⟩
 |v::r,o,w,cur,h=>by
  rw [World.setCells];exact Jaz g T r (o+1) _ _ (heap_setCell_same w g o cur T v h)

structure Kept (w wr:World) (n:Nd) (q:Raw) (g j:Nat):Prop where
 box:Box wr w.heap.size n q
 out:Box wr (w.heap.size+1) nd0 raw0
 below:Below w.heap.size w wr
 big:w.heap.size+1<g
 small:g≤wr.heap.size
 names:TxtIn wr (fun b=>w.heap.size+1<b∧b<g) q.An n.N
 exts:ExtIn wr (fun b=>w.heap.size+1<b∧b<g) q.Ae n.E
 row:∀i x,n.I[i]?=some x→q.Ai=some ⟨g,0,none⟩∧(∃cur,wr.heap[g]?=some (.cells cur 46 (0,0)))∧
  ∃rx,(i<j→NdIn wr (fun b=>g<b∧b<wr.heap.size) x rx)∧(j≤i→NdAt w w.heap.size x rx)∧∀k v,(rawCells x rx)[k]?=some v→wr.cell? ⟨g,i*7+k,none⟩=some v
 fit:Fit n q
theorem Kept.later {w wr w':World} {n:Nd} {q:Raw} {g j:Nat} (h:Kept w wr n q g j) (hb:Below wr.heap.size wr w'):Kept w w' n q g j:=by
 refine⟨h.box.below hb,h.out.below hb,h.below.trans (hb.mono h.below.size),h.big,Nat.le_trans h.small hb.size,?_,?_,?_,h.fit⟩
 ·exact h.names.keep fun b hk=>⟨hb.block b (Nat.lt_of_lt_of_le hk.2 h.small),hk⟩
 ·exact h.exts.keep fun b hk=>⟨hb.block b (Nat.lt_of_lt_of_le hk.2 h.small),hk⟩
 ·intro i x hx
  obtain⟨h1,⟨cur,h2⟩,rx,h3,h4,h5⟩:=h.row i x hx;have hg:=lt_of_some h2;exact⟨h1,⟨cur,(hb.block g hg).trans h2⟩,rx,fun hi=>(h3 hi).keep fun b hk=>⟨hb.block b hk.2,hk.1,Nat.lt_of_lt_of_le hk.2 hb.size⟩,h4,
    fun k v hk=>(hb.cell (p:=⟨g,i*7+k,none⟩) hg).trans (h5 k v hk)⟩
theorem Kept.store {w wr:World} {n x:Nd} {q rx:Raw} {g j:Nat} (h:Kept w wr n q g j) (hx:n.I[j]?=some x) (hn:NdIn wr (fun b=>g<b∧b<wr.heap.size) x rx):
  Kept w (wr.setCells g (j*7) (rawCells x rx).toList) n q g (j+1):=by
 obtain⟨_,⟨cur,hcur⟩,ry,_,_,hcell⟩:=h.row j x hx;have hg:=lt_of_some hcur;have hb1:=h.big;have oth:∀b,b<wr.heap.size→b≠g→(wr.setCells g (j*7) (rawCells x rx).toList).heap[b]?=wr.heap[b]?:=fun b h1 h2=>World.heap_setCells_other wr g _ _ h1 h2;have hbx:=h.box.lt;have hox:=h.out.lt;have hs:=size_setCells g (rawCells x rx).toList (j*7) wr;refine⟨(oth _ hbx (by omega)).trans h.box,(oth _ hox (by omega)).trans h.out,?_,h.big,by rw [hs];exact h.small,?_,?_,?_,h.fit⟩
 ·have hi:(∀vs o (w1:World),Below w.heap.size w w1→Below w.heap.size w (w1.setCells g o vs)):=by
   intro vs
   induction vs with
   |nil=>intro o w1 h1;exact h1
   |cons v vs ih=>intro o w1 h1;rw [World.setCells];exact ih _ _ (h1.setCell (p:=⟨g,o,none⟩) (by show w.heap.size≤g;omega) v)
  exact hi _ _ _ h.below
 ·exact h.names.keep fun b hk=>⟨oth b (by have:=h.small;omega) (by omega),hk⟩
 ·exact h.exts.keep fun b hk=>⟨oth b (by have:=h.small;omega) (by omega),hk⟩
 ·intro i y hy
  obtain⟨h1,_,ri,h3,h4,h5⟩:=h.row i y hy;refine⟨h1,Jaz g _ _ _ _ cur hcur,?_⟩;by_cases hij:i=j
  ·subst hij
   obtain rfl:x=y:=Option.some.inj (hx.symm.trans hy);refine⟨rx,fun _=>hn.keep fun b hk=>⟨oth b hk.2 (by omega),hk.1,by rw [hs];exact hk.2⟩,fun hle=>by omega,fun k v hk=>?_⟩;have hlt:k<(rawCells x rx).toList.length:=by rw [Array.length_toList];exact (Array.getElem?_eq_some_iff.1 hk).1
   rw [World.cell?_setCells_in g (rawCells x rx).toList (i*7) wr (fun k' hk'=>by
     have hk'':k'<(rawCells x ri).size:=hk';rw [h5 k' _ (Array.getElem?_eq_getElem (xs:=rawCells x ri) (i:=k') hk'')];rfl) k hlt,←Array.getElem?_toList.trans hk]
   exact (List.getElem?_eq_getElem hlt).symm
  ·refine⟨ri,fun hlt=>(h3 (by omega)).keep fun b hk=>⟨oth b hk.2 (by omega),hk.1,by rw [hs];exact hk.2⟩,fun hle=>h4 (by omega),fun k v hk=>?_⟩
   have hlt:k<7:=(Array.getElem?_eq_some_iff.1 hk).1;rw [World.cell?_setCells_out g (rawCells x rx).toList (j*7) wr ⟨g,i*7+k,none⟩ (fun _ _=>by
     show i*7+k<j*7∨j*7+7≤i*7+k;omega)]
   exact h5 k v hk
theorem Kept.done {w wr:World} {n:Nd} {q:Raw} {g j:Nat} (h:Kept w wr n q g j) (hj:n.I.length≤j):
  NdIn (wr.setCells (w.heap.size+1) 0 (rawCells n q).toList) (fun b=>w.heap.size≤b∧b<(wr.setCells (w.heap.size+1) 0 (rawCells n q).toList).heap.size) n q∧
   Below w.heap.size w (wr.setCells (w.heap.size+1) 0 (rawCells n q).toList):=by
 have hs:=size_setCells (w.heap.size+1) (rawCells n q).toList 0 wr;have hb1:=h.big;have hsm:=h.small;have oth:∀b,b<wr.heap.size→b≠w.heap.size+1→(wr.setCells (w.heap.size+1) 0 (rawCells n q).toList).heap[b]?=wr.heap[b]?:=fun b h1 h2=>World.heap_setCells_other wr _ _ _ h1 h2;have hrow:∀i x,n.I[i]?=some x→∃rx,NdIn wr (fun b=>g<b∧b<wr.heap.size) x rx∧q.Ai=some ⟨g,0,none⟩∧g<wr.heap.size∧∀k v,(rawCells x rx)[k]?=some v→wr.cell? ⟨g,i*7+k,none⟩=some v:=fun i x hx=>by
  obtain⟨h1,⟨cur,h2⟩,rx,h3,_,h5⟩:=h.row i x hx;have hlt:=(List.getElem?_eq_some_iff.1 hx).1;exact⟨rx,h3 (by omega),h1,lt_of_some h2,h5⟩
 have hch:∃rs:Nat→Raw,∀i x,n.I[i]?=some x→NdIn wr (fun b=>g<b∧b<wr.heap.size) x (rs i)∧q.Ai=some ⟨g,0,none⟩∧g<wr.heap.size∧∀k v,(rawCells x (rs i))[k]?=some v→wr.cell? ⟨g,i*7+k,none⟩=some v:=by
  have:∀i,∃rx:Raw,∀x,n.I[i]?=some x→NdIn wr (fun b=>g<b∧b<wr.heap.size) x rx∧q.Ai=some ⟨g,0,none⟩∧g<wr.heap.size∧∀k v,(rawCells x rx)[k]?=some v→wr.cell? ⟨g,i*7+k,none⟩=some v:=fun i=>by
   rcases hi:n.I[i]? with _ |x
   ·exact⟨raw0,fun x hx=>by cases hx⟩
   ·obtain⟨rx,hrx⟩:=hrow i x hi
    exact⟨rx,fun y hy=>by cases hy;exact hrx⟩
  exact⟨fun i=>(this i).choose,fun i=>(this i).choose_spec⟩
 have hbe:Below w.heap.size w (wr.setCells (w.heap.size+1) 0 (rawCells n q).toList):=by
  have hi:(∀vs o (w1:World),Below w.heap.size w w1→Below w.heap.size w (w1.setCells (w.heap.size+1) o vs)):=by
   intro vs
   induction vs with
   |nil=>intro o w1 h1;exact h1
   |cons v vs ih=>intro o w1 h1;rw [World.setCells];exact ih _ _ (h1.setCell (p:=⟨w.heap.size+1,o,none⟩) (by show w.heap.size≤w.heap.size+1;omega) v)
  exact hi _ _ _ h.below
 obtain⟨rs,hrs⟩:=hch;generalize wr.setCells (w.heap.size+1) 0 (rawCells n q).toList=w' at hs oth hbe ⊢;refine⟨.mk rs h.fit (h.names.keep fun b hk=>⟨oth b (by omega) (by omega),by omega,by rw [hs];omega⟩) (h.exts.keep fun b hk=>⟨oth b (by omega) (by omega),by omega,by rw [hs];omega⟩) (fun i x hx=>?_) (fun i x hx=>?_),hbe⟩
 ·obtain⟨_,h2,h3,h4⟩:=hrs i x hx
  refine⟨g,0,h2,⟨by omega,by rw [hs];omega⟩,fun k v hk=>?_⟩;have:=(World.cell?_of_block (a:=⟨g,i*7+k,none⟩) (oth g h3 (by omega))).trans (h4 k v hk);rw [show 0+i*7+k=i*7+k by omega];exact this
 ·exact (hrs i x hx).1.keep fun b hk=>⟨oth b hk.2 (by omega),by omega,by rw [hs];exact hk.2⟩

def Own (E:TypeId) (size n:Nat) (xs:List Value) (w:World) (e:Ending) (w':World):Prop:=
 ∃A c,e= .returned (.slice A n c)∧n≤c∧(A=none→n=0∧c=0)∧w'.ownsRow w.heap.size E size (.slice A n c) n xs∧Below w.heap.size w w'
theorem Below.lies {w w':World} {A:Option Addr} {xs:List Value} (h:Lies w A xs) (hb:Below w.heap.size w w'):Lies w' A xs:=fun j u hu=>by
 obtain⟨b,off,h1,h2,h3⟩:=h j u hu;exact⟨b,off,h1,Nat.lt_of_lt_of_le h2 hb.size,(hb.cell (p:=⟨b,off+j,none⟩) h2).trans h3⟩
theorem Box.set {w:World} {g:Nat} {n:Nd} {r:Raw} (h:Box w g n r) (i:Nat) (v:Value) (r':Raw) (he:(rawCells n r).setIfInBounds i v=rawCells n r'):Box (w.setCell ⟨g,i,none⟩ v) g n r':=by
 unfold Box;rw [←he];exact heap_setCell_same w g i _ _ v h
theorem Box.far {w:World} {g:Nat} {n:Nd} {r:Raw} (h:Box w g n r) (p:Addr) (v:Value) (hne:g≠p.block):Box (w.setCell p v) g n r:=
 (heap_setCell_other w p g v hne).trans h
theorem Box.over {w:World} {g:Nat} {n m:Nd} {r q:Raw} (h:Box w g n r):Box (w.setCells g 0 (rawCells m q).toList) g m q:=by
 have h0:=heap_setCell_same w g 0 _ _ (.int .i64 m.K) h;have h1:=heap_setCell_same _ g 1 _ _ (.bool m.O) h0;have h2:=heap_setCell_same _ g 2 _ _ (.slice q.An m.N.length q.cn) h1;have h3:=heap_setCell_same _ g 3 _ _ (.slice q.Ai m.I.length q.ci) h2;have h4:=heap_setCell_same _ g 4 _ _ (.int .i64 m.S) h3;have h5:=heap_setCell_same _ g 5 _ _ (.slice q.Ae m.E.length q.ce) h4;have h6:=heap_setCell_same _ g 6 _ _ (.string m.T) h5;have he:w.setCells g 0 (rawCells m q).toList=((((((w.setCell ⟨g,0,none⟩ (.int .i64 m.K)).setCell ⟨g,1,none⟩ (.bool m.O)).setCell ⟨g,2,none⟩ (.slice q.An m.N.length q.cn)).setCell ⟨g,3,none⟩ (.slice q.Ai m.I.length q.ci)).setCell ⟨g,4,none⟩ (.int .i64 m.S)).setCell ⟨g,5,none⟩ (.slice q.Ae m.E.length q.ce)).setCell ⟨g,6,none⟩ (.string m.T):=by
  unfold rawCells;simp only [World.setCells,Nat.reduceAdd,Nat.zero_add]
 unfold Box;rw [he,h6];unfold rawCells;simp
theorem Kept.start {w w3 W3:World} {n:Nd} {q:Raw} {A:Option Addr} {c:Nat} {rs:Nat→Raw} {w2:World}
  (hbox:Box W3 w.heap.size n q) (hout:Box W3 (w.heap.size+1) nd0 raw0) (hb:Below w.heap.size w W3) (hsz:w.heap.size+1<w2.heap.size) (hle:w2.heap.size≤w3.heap.size)
  (hW:W3=w3.setCell ⟨w.heap.size,3,none⟩ (.slice A n.I.length c)) (hq:q.Ai=A)
  (hnames:TxtIn W3 (fun b=>w.heap.size+1<b∧b<w2.heap.size) q.An n.N) (hexts:ExtIn W3 (fun b=>w.heap.size+1<b∧b<w2.heap.size) q.Ae n.E)
  (hown:w3.ownsRow w2.heap.size 46 7 (.slice A n.I.length c) n.I.length (rowCells n.I rs)) (hit:∀i x,n.I[i]?=some x→NdAt w w.heap.size x (rs i)) (hfit:Fit n q):
  ∃g,Kept w W3 n q g 0:=by
 have hs:W3.heap.size=w3.heap.size:=by rw [hW,World.size_setCell]
 have oth:∀b,b≠w.heap.size→W3.heap[b]?=w3.heap[b]?:=fun b hb=>by rw [hW];exact heap_setCell_other w3 _ b _ hb
 rcases hown.2 with⟨_,h0⟩ |⟨g,cap,cur,hv,h1,h2,_,_,_,_⟩
 ·exact⟨w2.heap.size,hbox,hout,hb,hsz,by omega,hnames,hexts,fun i x hx=>by have:=(List.getElem?_eq_some_iff.1 hx).1;omega,hfit⟩
 ·injection hv with hA
  have hg:=lt_of_some h2;refine⟨g,hbox,hout,hb,by omega,by omega,hnames.keep fun b hk=>⟨rfl,hk.1,by omega⟩,hexts.keep fun b hk=>⟨rfl,hk.1,by omega⟩,fun i x hx=>?_,hfit⟩;refine⟨hq.trans hA,⟨cur,(oth g (by omega)).trans h2⟩,rs i,fun h=>by omega,fun _=>hit i x hx,fun k v hk=>?_⟩;obtain⟨g',cur',h1',_,_,h2',h3'⟩:=Jkh hown (Jcx (rs:=rs) hx k v hk);rw [hA] at h1';injection h1' with h1';injection h1' with h1';subst h1';exact (World.cell?_of_block (a:=⟨g,i*7+k,none⟩) (oth g (by omega))).trans h3'



theorem below_setCells {w:World} {B g:Nat} (hg:B≤g):∀(vs:List Value) (o:Nat) (w1:World),Below B w w1→Below B w (w1.setCells g o vs)
 |[],_,_,h=>h
 |v::vs,o,w1,h=>by
  rw [World.setCells];exact below_setCells hg vs (o+1) _ (h.setCell (p:=⟨g,o,none⟩) hg v)

end Go.Proofs.YtekekhgjobahaaaGreatDoor.tre
