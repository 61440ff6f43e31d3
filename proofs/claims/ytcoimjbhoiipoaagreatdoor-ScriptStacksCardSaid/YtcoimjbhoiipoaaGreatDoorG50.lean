import Derived.Test.YtcoimjbhoiipoaaGreatDoorG29
set_option maxRecDepth 100000
namespace Go.Proofs.YtcoimjbhoiipoaaGreatDoor.seen
open Go.RowKit words ext name tre stk

def spotV (l i:Int):Value:= .agg #[.int .i64 l,.int .i64 i]

structure StkM (w:World) (A:Option Addr) (L:List (Nat×Int)) (Es:List (List Ent)):Prop where
 rows:stk.Rows w w.heap.size A L
 es:Es.length=L.length
 brs:∀(k:Nat) (x:Nat×Int) (E:List Ent),L[k]?=some x→Es[k]?=some E→Brn w w.heap.size x.1 E
theorem StkM.later {w w':World} {A:Option Addr} {L:List (Nat×Int)} {Es:List (List Ent)} (h:StkM w A L Es) (hb:Below w.heap.size w w'):StkM w' A L Es:=
 ⟨(h.rows.keep hb).more hb.size,h.es,fun k x E h1 h2=>(h.brs k x E h1 h2).later hb⟩
def Plc (w:World) (B:Nat) (A:Option Addr) (P:List (Nat×Nat)):Prop:=
 ∀(i:Nat) (x:Nat×Nat),P[i]?=some x→∃b off,A=some ⟨b,off,none⟩∧b<B∧w.cell? ⟨b,off+i*2,none⟩=some (.int .i64 (x.1:Int))∧w.cell? ⟨b,off+i*2+1,none⟩=some (.int .i64 (x.2:Int))
theorem Plc.keep {w w':World} {B:Nat} {A:Option Addr} {P:List (Nat×Nat)} (h:Plc w B A P) (hb:Below B w w'):Plc w' B A P:=fun i x hx=>by
 obtain⟨b,off,h1,h2,h3,h4⟩:=h i x hx;exact⟨b,off,h1,h2,(hb.cell (p:=⟨b,off+i*2,none⟩) h2).trans h3,(hb.cell (p:=⟨b,off+i*2+1,none⟩) h2).trans h4⟩
theorem Plc.more {w:World} {B B':Nat} {A:Option Addr} {P:List (Nat×Nat)} (h:Plc w B A P) (hB:B≤B'):Plc w B' A P:=fun i x hx=>by
 obtain⟨b,off,h1,h2,h3⟩:=h i x hx;exact⟨b,off,h1,Nat.lt_of_lt_of_le h2 hB,h3⟩
def entAt (Es:List (List Ent)) (x:Nat×Nat):Option Ent:=(Es[x.1]?).bind (·[x.2]?)
def oneN (Es:List (List Ent)):List (Nat×Nat)→Nat
 |[]=>0
 |x::P=>match entAt Es x with
  |none=>0
  |some e=>if e.x.K=2 then (if e.x.O=true then 1 else oneN Es P+1) else 0
theorem Jr5 {Es:List (List Ent)} {P:List (Nat×Nat)} {k:Nat} {x:Nat×Nat} {e:Ent} (hx:P[k]?=some x) (he:entAt Es x=some e):oneN Es (P.drop k)=if e.x.K=2 then (if e.x.O=true then 1 else oneN Es (P.drop (k+1))+1) else 0:=by
 obtain⟨hk,rfl⟩:=List.getElem?_eq_some_iff.1 hx;rw [List.drop_eq_getElem_cons hk,oneN,he]

def spC (x:Nat×Nat):List Value:=[.int .i64 (x.1:Int),.int .i64 (x.2:Int)]
theorem Jse:∀{P:List (Nat×Nat)} {k:Nat} {x:Nat×Nat},P[k]?=some x→∀j,j<2→(P.flatMap spC)[k*2+j]?=(spC x)[j]?
 |[],k,x,hk,_,_=>by simp at hk
 |y::L,k,x,hk,j,hj=>by
  rw [List.flatMap_cons];rcases k with _ |k
  ·obtain rfl:y=x:=by simpa using hk
   rw [List.getElem?_append_left (by simp [spC];omega),Nat.zero_mul,Nat.zero_add]
  ·rw [List.getElem?_append_right (by simp [spC];omega),←Jse (P:=L) (k:=k) (by simpa using hk) j hj]
   congr 1;simp [spC];omega
theorem Plc.take {w:World} {B:Nat} {A:Option Addr} {P:List (Nat×Nat)} (h:Plc w B A P) (n:Nat):Plc w B A (P.take n):=fun i x hx=>h i x (by
  rw [List.getElem?_take] at hx;split at hx
  ·exact hx
  ·cases hx)
def roots (n:Nat):List (Nat×Nat):=(List.range n).map fun k=>(k,0)
def PlcOut (P:List (Nat×Nat)) (w:World) (e:Ending) (w':World):Prop:=∃A c,e= .returned (.slice A P.length c)∧Plc w' w'.heap.size A P∧P.length≤c∧(∀b off,A=some ⟨b,off,none⟩→w.heap.size≤b)∧Below w.heap.size w w'
theorem Jps (w:World) (cs:Array Value) (E:TypeId) (i:Nat):(w.alloc (.cells cs E)).cell? ((⟨w.heap.size,0,none⟩:Addr).add i)=cs[i]?:=by
 rw [add_place,Nat.zero_add];exact Jaa (heap_alloc_new w _) i
theorem ownL {w w':World} {B size n:Nat} {E:TypeId} {v:Value} {xs:List Value} (h:w.ownsRow B E size v n xs) (hb:Below w.heap.size w w'):w'.ownsRow B E size v n xs:=by
 refine⟨h.1,?_⟩;rcases h.2 with h0 |⟨g,cap,cur,h1,h2,h3,h4⟩
 ·exact .inl h0
 ·exact .inr ⟨g,cap,cur,h1,h2,(hb.block g (lt_of_some h3)).trans h3,h4⟩

def Lk (e:Ent) (s:ByteArray) (o:Option Nat):Prop:=(∃(i id:Nat),e.x.N[i]?=some s∧e.ids[i]?=some id∧o=some id)∨(o=none∧∀j:Nat,e.x.N[j]?≠some s)
def EntsOf (Es:List (List Ent)) (s:ByteArray):List (Nat×Nat)→List (Nat×Nat)→Prop
 |[],Q=>Q=[]
 |x::P,Q=>∃e o Q',entAt Es x=some e∧Lk e s o∧Q=(o.map fun i=>(x.1,i)).toList++Q'∧EntsOf Es s P Q'
theorem EntsOf.snoc {Es:List (List Ent)} {s:ByteArray} {x:Nat×Nat} {e:Ent} {o:Option Nat} (he:entAt Es x=some e) (hl:Lk e s o):∀{P Q:List (Nat×Nat)},EntsOf Es s P Q→EntsOf Es s (P++[x]) (Q++(o.map fun i=>(x.1,i)).toList)
 |[],Q,h=>by
  have h':Q=[]:=h;subst h';exact⟨e,o,[],he,hl,by simp,rfl⟩
 |y::P,Q,⟨e',o',Q',h1,h2,h3,h4⟩=>⟨e',o',_,h1,h2,by rw [h3,List.append_assoc],EntsOf.snoc he hl h4⟩

theorem EntsOf.all {Es:List (List Ent)} {s:ByteArray} (hids:∀E∈Es,∀e∈E,∀(i:Nat) id,e.ids[i]?=some id→∃e',E[id]?=some e'):∀{P Q:List (Nat×Nat)},EntsOf Es s P Q→∀x∈Q,∃e,entAt Es x=some e
 |[],Q,h,x,hx=>by
  have h':Q=[]:=h;subst h';cases hx
 |y::P,Q,⟨e',o',Q',h1,h2,h3,h4⟩,x,hx=>by
  rw [h3] at hx;rcases List.mem_append.1 hx with hx |hx
  ·rcases h2 with⟨i,id,_,h6,rfl⟩ |⟨rfl,_⟩
   ·obtain rfl:x=(y.1,id):=by simpa using hx
    unfold entAt at h1 ⊢;obtain⟨E,k1,k2⟩:=Option.bind_eq_some_iff.1 h1;obtain⟨e2,k3⟩:=hids E (List.mem_of_getElem? k1) e' (List.mem_of_getElem? k2) i id h6;exact⟨e2,by rw [k1];exact k3⟩
   ·simp at hx
  ·exact EntsOf.all hids h4 x hx
end Go.Proofs.YtcoimjbhoiipoaaGreatDoor.seen
