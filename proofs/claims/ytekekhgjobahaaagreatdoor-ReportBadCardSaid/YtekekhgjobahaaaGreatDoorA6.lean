import Derived.Test.YtekekhgjobahaaaGreatDoorA5
import Derived.StillTailTactics
import Derived.Deep.LoopGhost
set_option maxHeartbeats 6400000
set_option maxRecDepth 100000
open Go.Lib (hid)
open Go.Proofs.Tryz hiding parts
namespace Go.Proofs.YtekekhgjobahaaaGreatDoor.tre
open Go.RowKit ext name

inductive Nd where
 |mk (K:Int) (O:Bool) (N:List ByteArray) (I:List Nd) (S:Int) (E:List Ex) (T:ByteArray)
def Nd.K:Nd→Int | .mk K _ _ _ _ _ _=>K
def Nd.O:Nd→Bool | .mk _ O _ _ _ _ _=>O
def Nd.N:Nd→List ByteArray | .mk _ _ N _ _ _ _=>N
def Nd.I:Nd→List Nd | .mk _ _ _ I _ _ _=>I
def Nd.S:Nd→Int | .mk _ _ _ _ S _ _=>S
def Nd.E:Nd→List Ex | .mk _ _ _ _ _ E _=>E
def Nd.T:Nd→ByteArray | .mk _ _ _ _ _ _ T=>T
mutual
def count:Nd→Nat
 | .mk _ _ _ I _ _ _=>1+countL I
def countL:List Nd→Nat
 |[]=>0
 |x::L=>count x+countL L
end
mutual
def depth:Nd→Nat
 | .mk _ _ _ I _ _ _=>depthL I
def depthL:List Nd→Nat
 |[]=>0
 |x::L=>max (depth x+1) (depthL L)
end
theorem Jar (n:Nd):count n=1+countL n.I:=by cases n;rw [count];rfl
theorem Jah (n:Nd):depth n=depthL n.I:=by cases n;rw [depth];rfl
theorem Jaf (x:Nd) (L:List Nd):countL (x::L)=count x+countL L:=by rw [countL]
theorem Jaj:countL []=0:=by rw [countL]
theorem Jal (x:Nd) (L:List Nd):depthL (x::L)=max (depth x+1) (depthL L):=by rw [depthL]
theorem Jaq:depthL []=0:=by rw [depthL]
theorem Jbv:∀{L:List Nd} {i:Nat} {x:Nd},L[i]?=some x→depth x+1≤depthL L
 |[],i,x,h=>by simp at h
 |y::L,0,x,h=>by
  obtain rfl:y=x:=by simpa using h
  rw [Jal];exact Nat.le_max_left _ _
 |y::L,i+1,x,h=>by
  have:=Jbv (L:=L) (i:=i) (x:=x) (by simpa using h);rw [Jal];exact Nat.le_trans this (Nat.le_max_right _ _)
section
variable (st:Nd→Int→Int→Bool×Int)
mutual
def eachS:Nd→Int→Int→Bool×Int
 | .mk K O N I S E T,d,c=>if (st (.mk K O N I S E T) d c).1=true then eachL I (d+1) (st (.mk K O N I S E T) d c).2 else (false,(st (.mk K O N I S E T) d c).2)
def eachL:List Nd→Int→Int→Bool×Int
 |[],_,c=>(true,c)
 |x::L,d,c=>if (eachS x d c).1=true then eachL L d (eachS x d c).2 else (false,(eachS x d c).2)
end
theorem Jd9 (n:Nd) (d c:Int):eachS st n d c=if (st n d c).1=true then eachL st n.I (d+1) (st n d c).2 else (false,(st n d c).2):=by cases n;rw [eachS];rfl
theorem Jer (d c:Int):eachL st [] d c=(true,c):=by rw [eachL]
theorem Jb4 (x:Nd) (L:List Nd) (d c:Int):eachL st (x::L) d c=if (eachS st x d c).1=true then eachL st L d (eachS st x d c).2 else (false,(eachS st x d c).2):=by rw [eachL]
end

def spend (l:Int) (n:Nd):Int:=wrap64 (n.E.foldl (fun a x=>wrap64 (a - (x.D.size:Int))) (wrap64 (l - (1+(n.N.length:Int)+(n.E.length:Int)))) - (n.T.size:Int))
mutual
def smallS:Nd→Int→Int→Bool×Int
 | .mk K O N I S E T,d,l=>if spend l (.mk K O N I S E T)<0∨d<0 then (false,spend l (.mk K O N I S E T)) else smallL I (d - 1) (spend l (.mk K O N I S E T))
def smallL:List Nd→Int→Int→Bool×Int
 |[],_,l=>(true,l)
 |x::L,d,l=>if (smallS x d l).1=true then smallL L d (smallS x d l).2 else (false,(smallS x d l).2)
end
theorem Jcs (n:Nd) (d l:Int):smallS n d l=if spend l n<0∨d<0 then (false,spend l n) else smallL n.I (d - 1) (spend l n):=by cases n;rw [smallS];rfl
theorem Jda (d l:Int):smallL [] d l=(true,l):=by rw [smallL]
theorem Jbr (x:Nd) (L:List Nd) (d l:Int):smallL (x::L) d l=if (smallS x d l).1=true then smallL L d (smallS x d l).2 else (false,(smallS x d l).2):=by rw [smallL]
def smallB (n:Nd):Bool:=(smallS n 30 400).1

def lessB (a b:ByteArray):Bool:=Op.bytesLess a.toList b.toList
def riseFrom:Option ByteArray→List ByteArray→Bool
 |_,[]=>true
 |p,s::L=>(right s.data.toList&&(match p with |none=>true |some q=>lessB q s))&&riseFrom (some s) L
def riseB (N:List ByteArray):Bool:=riseFrom none N
def pathB (s:ByteArray):Bool:=(parts s.data.toList).isSome&&decide (s.size≤256)
def noneB (n:Nd):Bool:= !n.O&&n.N.length==0&&n.I.length==0
def emptyB (n:Nd):Bool:=n.S==0&&n.E.length==0
def oneB (n:Nd):Bool:=
 if n.K=1 then noneB n&&n.T.size==0&&rightB n.S n.E
 else if n.K=2 then emptyB n&&n.T.size==0&&(n.N.length==n.I.length&&riseB n.N)
 else if n.K=3 then noneB n&&emptyB n&&pathB n.T
 else if n.K=4 then noneB n&&emptyB n&&n.T.size==0
 else false
mutual
def allB:Nd→Bool
 | .mk K O N I S E T=>allL I&&oneB (.mk K O N I S E T)
def allL:List Nd→Bool
 |[]=>true
 |x::L=>allB x&&allL L
end
theorem Jcc (n:Nd):allB n=(allL n.I&&oneB n):=by cases n;rw [allB];rfl
theorem Jnm:allL []=true:=by rw [allL]
theorem Jbh (x:Nd) (L:List Nd):allL (x::L)=(allB x&&allL L):=by rw [allL]
def stR (n:Nd) (d c:Int):Bool×Int:=(decide (wrap64 (c+1)≤4096)&&decide (d≤15)&&oneB n,wrap64 (c+1))
def stC (_:Nd) (d c:Int):Bool×Int:=(decide (d≤65536),wrap64 (c+1))
def stE (_:Nd) (d c:Int):Bool×Int:=(decide (d≤65536),c)
def treeB (n:Nd):Bool:=n.K==2&&(eachS stR n 0 0).1
def refB (n:Nd):Bool:=n.K==2&&allB n&&decide (wrap64 (count n:Int)≤4096)&&decide (depth n≤15)

theorem Jcn {n:Int} (h: -9223372036854775808≤n∧n≤9223372036854775807):wrap64 n=n:=by rw [←IntWalk.i64_left];exact IntWalk.i64_in n h
end Go.Proofs.YtekekhgjobahaaaGreatDoor.tre

namespace Go.Proofs.YtekekhgjobahaaaGreatDoor.tre
open Go.RowKit words ext name

def Txts (w:World) (B:Nat) (A:Option Addr) (Q:List ByteArray):Prop:=
 ∀i x,Q[i]?=some x→(∃b off,A=some ⟨b,off,none⟩∧b<B∧w.cell? ⟨b,off+i,none⟩=some (.string x))∧x.size≤140737488355328
theorem Txts.keep {w w':World} {B:Nat} {A:Option Addr} {Q:List ByteArray} (h:Txts w B A Q) (hb:Below B w w'):Txts w' B A Q:=fun i x hx=>by
 obtain⟨⟨b,off,hA,hB,c0⟩,h1⟩:=h i x hx;exact⟨⟨b,off,hA,hB,(hb.cell (p:=⟨b,off+i,none⟩) hB).trans c0⟩,h1⟩
theorem Txts.more {w:World} {B B':Nat} {A:Option Addr} {Q:List ByteArray} (h:Txts w B A Q) (hB':B≤B'):Txts w B' A Q:=fun i x hx=>by
 obtain⟨⟨b,off,hA,hB,c⟩,h1⟩:=h i x hx;exact⟨⟨b,off,hA,Nat.lt_of_lt_of_le hB hB',c⟩,h1⟩

structure Raw where
 An:Option Addr
 cn:Nat
 Ai:Option Addr
 ci:Nat
 Ae:Option Addr
 ce:Nat
def rawCells (n:Nd) (r:Raw):Array Value:=
 #[.int .i64 n.K,.bool n.O,.slice r.An n.N.length r.cn,.slice r.Ai n.I.length r.ci,.int .i64 n.S,.slice r.Ae n.E.length r.ce,.string n.T]
structure Fit (n:Nd) (r:Raw):Prop where
 k1: -9223372036854775808≤n.K
 k2:n.K≤9223372036854775807
 s1: -9223372036854775808≤n.S
 s2:n.S≤9223372036854775807
 t:n.T.size≤140737488355328
 ln:n.N.length*16≤140737488355328
 li:n.I.length*112≤140737488355328
 le:n.E.length*24≤140737488355328
 cn:n.N.length≤r.cn
 ci:n.I.length≤r.ci
 ce:n.E.length≤r.ce
 zn:r.An=none→n.N.length=0∧r.cn=0
 zi:r.Ai=none→n.I.length=0∧r.ci=0
 ze:r.Ae=none→n.E.length=0∧r.ce=0
inductive NdAt (w:World) (B:Nat):Nd→Raw→Prop
 |mk {n:Nd} {r:Raw} (rs:Nat→Raw) (fit:Fit n r) (names:Txts w B r.An n.N) (exts:Exts w B r.Ae n.E)
   (cells:∀i x,n.I[i]?=some x→∃b off,r.Ai=some ⟨b,off,none⟩∧b<B∧∀j v,(rawCells x (rs i))[j]?=some v→w.cell? ⟨b,off+i*7+j,none⟩=some v)
   (items:∀i x,n.I[i]?=some x→NdAt w B x (rs i)):NdAt w B n r
section
variable {w w':World} {B B':Nat} {n:Nd} {r:Raw}
theorem NdAt.fit (h:NdAt w B n r):Fit n r:=by cases h;assumption
theorem NdAt.names (h:NdAt w B n r):Txts w B r.An n.N:=by cases h;assumption
theorem NdAt.exts (h:NdAt w B n r):Exts w B r.Ae n.E:=by cases h;assumption
theorem NdAt.item (h:NdAt w B n r) {i:Nat} {x:Nd} (hx:n.I[i]?=some x):
  ∃r',NdAt w B x r'∧∃b off,r.Ai=some ⟨b,off,none⟩∧b<B∧∀j v,(rawCells x r')[j]?=some v→w.cell? ⟨b,off+i*7+j,none⟩=some v:=by
 cases h with
 |mk rs _ _ _ hc hi=>
  obtain⟨b,off,h1,h2,h3⟩:=hc i x hx;exact⟨rs i,hi i x hx,b,off,h1,h2,h3⟩
theorem NdAt.keep (h:NdAt w B n r) (hb:Below B w w'):NdAt w' B n r:=by
 induction h with
 |mk rs fit names exts cells items ih=>
  refine .mk rs fit (names.keep hb) (exts.keep hb) (fun i x hx=>?_) ih;obtain⟨b,off,h1,h2,h3⟩:=cells i x hx;exact⟨b,off,h1,h2,fun j v hj=>(hb.cell (p:=⟨b,off+i*7+j,none⟩) h2).trans (h3 j v hj)⟩
theorem NdAt.more (h:NdAt w B n r) (hB:B≤B'):NdAt w B' n r:=by
 induction h with
 |mk rs fit names exts cells items ih=>
  refine .mk rs fit (names.more hB) (exts.more hB) (fun i x hx=>?_) ih;obtain⟨b,off,h1,h2,h3⟩:=cells i x hx;exact⟨b,off,h1,Nat.lt_of_lt_of_le h2 hB,h3⟩
theorem NdAt.later (h:NdAt w w.heap.size n r) (hb:Below w.heap.size w w'):NdAt w' w'.heap.size n r:=(h.keep hb).more hb.size
theorem NdAt.entry (h:NdAt w B n r) {i:Nat} {x:Nd} (hx:n.I[i]?=some x) (hb:Below B w w'):
  ∃r',NdAt w B x r'∧∃b off,r.Ai=some ⟨b,off,none⟩∧b<B∧w'.cell? ⟨b,off+i*7,none⟩=some (.int .i64 x.K)∧w'.cell? ⟨b,off+i*7+1,none⟩=some (.bool x.O)∧
   w'.cell? ⟨b,off+i*7+2,none⟩=some (.slice r'.An x.N.length r'.cn)∧w'.cell? ⟨b,off+i*7+3,none⟩=some (.slice r'.Ai x.I.length r'.ci)∧w'.cell? ⟨b,off+i*7+4,none⟩=some (.int .i64 x.S)∧
   w'.cell? ⟨b,off+i*7+5,none⟩=some (.slice r'.Ae x.E.length r'.ce)∧w'.cell? ⟨b,off+i*7+6,none⟩=some (.string x.T):=by
 obtain⟨r',hr,b,off,h1,h2,h3⟩:=h.item hx;have g:=fun j v hj=>(hb.cell (p:=⟨b,off+i*7+j,none⟩) h2).trans (h3 j v hj);exact⟨r',hr,b,off,h1,h2,g 0 _ rfl,g 1 _ rfl,g 2 _ rfl,g 3 _ rfl,g 4 _ rfl,g 5 _ rfl,g 6 _ rfl⟩
end
def Box (w:World) (g:Nat) (n:Nd) (r:Raw):Prop:=w.heap[g]?=some (.cells (rawCells n r) 46 (0,0))
theorem Box.cells {w:World} {g:Nat} {n:Nd} {r:Raw} (h:Box w g n r):w.cell? ⟨g,0,none⟩=some (.int .i64 n.K)∧w.cell? ⟨g,1,none⟩=some (.bool n.O)∧w.cell? ⟨g,2,none⟩=some (.slice r.An n.N.length r.cn)∧
  w.cell? ⟨g,3,none⟩=some (.slice r.Ai n.I.length r.ci)∧w.cell? ⟨g,4,none⟩=some (.int .i64 n.S)∧w.cell? ⟨g,5,none⟩=some (.slice r.Ae n.E.length r.ce)∧w.cell? ⟨g,6,none⟩=some (.string n.T):=
 ⟨Jaa h 0,Jaa h 1,Jaa h 2,Jaa h 3,Jaa h 4,Jaa h 5,Jaa h 6⟩
theorem Box.new (w:World) (n:Nd) (r:Raw):Box (w.alloc (.cells (rawCells n r) 46)) w.heap.size n r:=heap_alloc_new w _
theorem Box.lt {w:World} {g:Nat} {n:Nd} {r:Raw} (h:Box w g n r):g<w.heap.size:=lt_of_some h
theorem Box.below {w w':World} {g:Nat} {n:Nd} {r:Raw} (h:Box w g n r) (hb:Below w.heap.size w w'):Box w' g n r:=(hb.block g h.lt).trans h
theorem Box.grown {w w':World} {g:Nat} {n:Nd} {r:Raw} {row:Option Nat} (h:Box w g n r) (hb:w.grownBy w' row) (hne:some g≠row):Box w' g n r:=(hb.block g h.lt hne).trans h
theorem Box.alloc {w:World} {g:Nat} {n:Nd} {r:Raw} (h:Box w g n r) (o:Obj):Box (w.alloc o) g n r:=(Below.heap_alloc _ _ _ h.lt).trans h
def ndV (n:Nd) (r:Raw):Value:= .agg (rawCells n r)

def Cnt (w:World) (g:Nat) (c:Int):Prop:=w.heap[g]?=some (.cells #[.int .i64 c] 3 (0,0))
theorem Cnt.lt {w:World} {g:Nat} {c:Int} (h:Cnt w g c):g<w.heap.size:=lt_of_some h
theorem Cnt.cell {w:World} {g:Nat} {c:Int} (h:Cnt w g c):w.cell? ⟨g,0,none⟩=some (.int .i64 c):=Jaa h 0
theorem Cnt.free {w:World} {g:Nat} {c:Int} (h:Cnt w g c):w.frozen? ⟨g,0,none⟩=false:=Jab h 0
theorem Cnt.set_ {w:World} {g:Nat} {c:Int} (h:Cnt w g c) (u:Int):Cnt (w.setCell ⟨g,0,none⟩ (.int .i64 u)) g u:=Jbo h _
theorem Cnt.below {w w':World} {g:Nat} {c:Int} (h:Cnt w g c) (hb:Below w.heap.size w w'):Cnt w' g c:=(hb.block g h.lt).trans h
theorem Cnt.alloc {w:World} {g:Nat} {c:Int} (h:Cnt w g c) (o:Obj):Cnt (w.alloc o) g c:=(Below.heap_alloc _ _ _ h.lt).trans h
theorem below_grown {B g:Nat} {W0 w w':World} (hb:Below B W0 w) (hB:B≤W0.heap.size) (hg:w.grownBy w' (some g)) (hBg:B≤g):Below B W0 w':=
 hb.trans ⟨hg.os,hg.tape,hg.output,hg.size,fun k hk=>hg.block k (Nat.lt_of_lt_of_le (Nat.lt_of_lt_of_le hk hB) hb.size) (fun e=>by injection e with e;omega)⟩
theorem Jae {a b c:World} {row:Option Nat} (h:a.grownBy b row) (k:b.grownBy c row):a.grownBy c row:=
 ⟨k.os.trans h.os,k.tape.trans h.tape,k.output.trans h.output,Nat.le_trans h.size k.size,fun i hi hne=>(k.block i (Nat.lt_of_lt_of_le hi h.size) hne).trans (h.block i hi hne)⟩
theorem Jan {a w:World} (h:Below a.heap.size a w) (row:Option Nat):a.grownBy w row:=⟨h.os,h.tape,h.output,h.size,fun i hi _=>h.block i hi⟩
theorem Ja1 (w:World) (g:Nat) (u:Value):w.grownBy (w.setCell ⟨g,0,none⟩ u) (some g):=
 ⟨rfl,rfl,rfl,by simp [World.setCell],fun i _ hne=>Below.heap_setCell w ⟨g,0,none⟩ u i (fun e=>hne (by rw [e]))⟩
theorem Jca (n:Int): -9223372036854775808≤wrap64 n∧wrap64 n≤9223372036854775807:=by unfold wrap64;omega
theorem Je4 (l:Int) (n:Nd): -9223372036854775808≤spend l n∧spend l n≤9223372036854775807:=Jca _
theorem fold_at {L:List Ex} {k:Nat} {x:Ex} (h:L[k]?=some x) (f:Int→Ex→Int) (a:Int):(L.take (k+1)).foldl f a=f ((L.take k).foldl f a) x:=by
 rw [take_at h,List.foldl_append];rfl
mutual
theorem Jci:∀(n:Nd) (d l:Int),-9223372036854775808≤(smallS n d l).2∧(smallS n d l).2≤9223372036854775807
 | .mk K O N I S E T,d,l=>by
  rw [Jcs];split
  ·exact Je4 _ _
  ·exact Jeg I _ _ (Je4 _ _)
theorem Jeg:∀(L:List Nd) (d l:Int),-9223372036854775808≤l∧l≤9223372036854775807→ -9223372036854775808≤(smallL L d l).2∧(smallL L d l).2≤9223372036854775807
 |[],d,l,h=>by rw [Jda];exact h
 |x::L,d,l,h=>by
  rw [Jbr];split
  ·exact Jeg L _ _ (Jci x d l)
  ·exact Jci x d l
end

theorem Jbk {p:Bool×Int} {b:Bool} {c:Int} (h:p=(b,c)):Ending.returned (.bool b)= .returned (.bool p.1):=by subst h;rfl
theorem Jcl {p:Bool×Int} {b:Bool} {c:Int} {w:World} {g:Nat} (h:p=(b,c)) (hc:Cnt w g c):Cnt w g p.2:=by subst h;exact hc
theorem Jtr (W0:World):∀(k:Nat) (n:Nd) (r:Raw) (d l:Int) (bl:Nat) (w:World),depth n<k→NdAt W0 W0.heap.size n r→Below W0.heap.size W0 w→W0.heap.size≤bl→Cnt w bl l→
  -1≤d→d≤1000→ -9223372036854775808≤l→l≤9223372036854775807→
  Calls prog 38 #[ndV n r,.int .i64 d,.pointer (some ⟨bl,0,none⟩)] w fun e w'=>e= .returned (.bool (smallS n d l).1)∧Cnt w' bl (smallS n d l).2∧w.grownBy w' (some bl):=by
 intro k
 induction k with
 |zero=>intro n r d l bl w hk;omega
 |succ k ih=>
  intro n r d l bl w hk hN hb hbl hc hd1 hd2 hl1 hl2;have IH:=hid ih;have fit:=hN.fit;have f1:=fit.t;have f2:=fit.ln;have f3:=fit.le;have f4:=fit.li;have HN:=hid hN;have HB:=hid hb;obtain⟨W1,hW1⟩:=words.nm (w.alloc (.cells (rawCells n r) 46));have hx1:Box W1 w.heap.size n r:=by rw [hW1];exact Box.new w n r
  have hc1:Cnt W1 bl l:=by rw [hW1];exact hc.alloc _
  have hg1:w.grownBy W1 (some bl):=by rw [hW1];exact World.grownBy_alloc _ _ _
  have hne:w.heap.size≠bl:=by have:=hc.lt;omega
  unfold rawCells at hW1;have HX1:=hid hx1;have HG1:=hid hg1;have HC1:=hid hc1;have HW1:=hid hW1;obtain⟨l1,hl⟩:=words.nm (wrap64 (l - (1+(n.N.length:Int)+(n.E.length:Int))));have hl1b: -9223372036854775808≤l1∧l1≤9223372036854775807:=by rw [hl];exact Jca _
  have hw1:IntKind.i64.wrap (1+(n.N.length:Int))=1+(n.N.length:Int):=IntWalk.i64_in _ ⟨by omega,by omega⟩;have hw2:IntKind.i64.wrap (1+(n.N.length:Int)+(n.E.length:Int))=1+(n.N.length:Int)+(n.E.length:Int):=IntWalk.i64_in _ ⟨by omega,by omega⟩;have hw3:IntKind.i64.wrap (l - (1+(n.N.length:Int)+(n.E.length:Int)))=l1:=by rw [IntWalk.i64_left,hl]
  have HL1:=hid hl;have HS:=hid (Jcs n d l);clear hN hb hW1 hx1 hc1 hg1 hc fit ih hl;unfold ndV rawCells;go_enter func38,ntmps38
  go_wp2_with fail
  rw [←HW1.out];obtain⟨b0,b1,b2,b3,b4,b5,b6⟩:=HX1.out.cells;have k0:=HC1.out.cell;go_still_tail 13,(by kernel_rfl)
  change wpList _ _ _ _ _ (World.drew _);generalize hW2:W1.drew=W2;have HX2:Hid (Box W2 w.heap.size n r):=by rw [←hW2];exact hid HX1.out
  have HC2:Hid (Cnt W2 bl l):=by rw [←hW2];exact hid HC1.out
  have HG2:Hid (w.grownBy W2 (some bl)):=by rw [←hW2];exact hid (Jae HG1.out (Jan (Below.refl _ _).drew _))
  have hfz:=HC2.out.free;have hcl:=HC2.out.cell;obtain⟨W3,hW3⟩:=words.nm (W2.setCell ⟨bl,0,none⟩ (.int .i64 l1));have HX3:Hid (Box W3 w.heap.size n r):=by rw [hW3];exact hid (HX2.out.grown (Ja1 _ _ _) (fun e=>hne (by injection e)))
  have HC3:Hid (Cnt W3 bl l1):=by rw [hW3];exact hid (HC2.out.set_ _)
  have HG3:Hid (w.grownBy W3 (some bl)):=by rw [hW3];exact hid (Jae HG2.out (Ja1 _ _ _))
  have HW3:=hid hW3;clear hW2 hW3 b0 b1 b2 b3 b4 b5 b6 k0 HX1 HC1 HG1 HW1;have hne':bl≠w.heap.size:=fun e=>hne e.symm;obtain⟨b0,b1,b2,b3,b4,b5,b6⟩:=HX2.out.cells;clear HX2;go_wp2_with fail
  clear b0 b1 b2 b3 b4 b5 b6 hfz hcl hw1 hw2 hw3 hne' HC2 HG2;go_loopw [27] (fun c wr=>∃(i:Nat) (li:Int),i≤n.E.length∧c= .int .i64 i∧Hid (li=(n.E.take i).foldl (fun a x=>wrap64 (a - (x.D.size:Int))) l1)∧ -9223372036854775808≤li∧li≤9223372036854775807∧Box wr w.heap.size n r∧Cnt wr bl li∧w.grownBy wr (some bl))
   (fun c _=>n.E.length - (intOf c).toNat)
  case atStart=>exact⟨0,l1,Nat.zero_le _,rfl,hid rfl,hl1b.1,hl1b.2,by rw [←HW3.out];exact HX3.out,by rw [←HW3.out];exact HC3.out,by rw [←HW3.out];exact HG3.out⟩
  case round=>
   obtain⟨i,li,hi,rfl,HLI,hb1,hb2,hbx,hcn,hgr⟩:=hrel;have HX:=hid hbx;have HC:=hid hcn;have HG:=hid hgr;clear hbx hcn hgr HX3 HC3 HG3 HW3;have HBw:=hid (below_grown HB.out (Nat.le_refl _) HG.out hbl);by_cases hlt:i<n.E.length
   ·obtain⟨x,hx⟩:∃x,n.E[i]?=some x:=⟨_,List.getElem?_eq_getElem hlt⟩
    obtain⟨⟨b,off,hAe,hB,c0,c1⟩,o1,o2,o3⟩:=(HN.out.exts.keep HBw.out) i x hx;have HN1:=hid (show wrap64 (li - (x.D.size:Int))=(n.E.take (i+1)).foldl (fun a x=>wrap64 (a - (x.D.size:Int))) l1 by rw [fold_at hx,HLI.out]);obtain⟨l2,hl2e⟩:=words.nm (wrap64 (li - (x.D.size:Int)));have hw4:IntKind.i64.wrap (li - (x.D.size:Int))=l2:=by rw [IntWalk.i64_left,hl2e]
    have hl2b: -9223372036854775808≤l2∧l2≤9223372036854775807:=by rw [hl2e];exact Jca _
    rw [←hl2e] at HN1;obtain⟨W4,hW4⟩:=words.nm (wr.alloc (.cells #[.int .i64 x.O,.string x.D] 131));have hX4:Box W4 w.heap.size n r:=by rw [hW4];exact HX.out.alloc _
    have hC4:Cnt W4 bl li:=by rw [hW4];exact HC.out.alloc _
    have hG4:w.grownBy W4 (some bl):=by rw [hW4];exact Jae HG.out (World.grownBy_alloc _ _ _)
    have e1:W4.cell? ⟨wr.heap.size,1,none⟩=some (.string x.D):=by rw [hW4];simp
    have HX4:=hid hX4;have HC4:=hid hC4;have HG4:=hid hG4;have HE1:=hid e1;have HW4:=hid hW4;have HLX:=hid hx;have HAe:=hid hAe;clear hX4 hC4 hG4 e1 hW4 hx hl2e;rw [hAe];clear hAe;go_wp2_with fail
    rw [←HW4.out];have e1:=HE1.out;have k0:=HC4.out.cell;go_still_tail 8,(by kernel_rfl)
    change wpList _ _ _ _ _ (World.drew _);generalize hW5:W4.drew=W5;have HX5:Hid (Box W5 w.heap.size n r):=by rw [←hW5];exact hid HX4.out
    have HC5:Hid (Cnt W5 bl li):=by rw [←hW5];exact hid HC4.out
    have HG5:Hid (w.grownBy W5 (some bl)):=by rw [←hW5];exact hid (Jae HG4.out (Jan (Below.refl _ _).drew _))
    have hfz:=HC5.out.free;have hcl:=HC5.out.cell;have HX6:=hid (HX5.out.grown (Ja1 W5 bl (.int .i64 l2)) (fun e=>hne (by injection e)));have HC6:=hid (HC5.out.set_ l2);have HG6:=hid (Jae HG5.out (Ja1 W5 bl (.int .i64 l2)));clear hW5 e1 k0 HX4 HC4 HG4 HE1 HW4 HX5 HC5 HG5 HX HC HG HBw c0 c1;go_wp2_with fail
    go_roundw
    case rel=>exact⟨i+1,l2,by omega,by go_num,HN1,hl2b.1,hl2b.2,HX6.out,HC6.out,HG6.out⟩
    case measure=>simp [intOf];omega
   ·obtain⟨l3,hl3⟩:=words.nm (wrap64 (li - (n.T.size:Int)))
    have hsp:l3=spend l n:=by
     unfold spend;rw [hl3,HLI.out,HL1.out,List.take_of_length_le (by omega)]
    have HSP:=hid hsp;have hl3b: -9223372036854775808≤l3∧l3≤9223372036854775807:=by rw [hl3];exact Jca _
    have hw5:IntKind.i64.wrap (li - (n.T.size:Int))=l3:=by rw [IntWalk.i64_left,hl3]
    clear hsp hl3;go_wp2_with fail
    have k0:=HC.out.cell;obtain⟨b0,b1,b2,b3,b4,b5,b6⟩:=HX.out.cells;go_still_tail 8,(by kernel_rfl)
    change wpList _ _ _ _ _ (World.drew _);generalize hW5:wr.drew=W5;have HX5:Hid (Box W5 w.heap.size n r):=by rw [←hW5];exact hid HX.out
    have HC5:Hid (Cnt W5 bl li):=by rw [←hW5];exact hid HC.out
    have HG5:Hid (w.grownBy W5 (some bl)):=by rw [←hW5];exact hid (Jae HG.out (Jan (Below.refl _ _).drew _))
    have hfz:=HC5.out.free;have hcl:=HC5.out.cell;have HX6:=hid (HX5.out.grown (Ja1 W5 bl (.int .i64 l3)) (fun e=>hne (by injection e)));have HC6:=hid (HC5.out.set_ l3);have HG6:=hid (Jae HG5.out (Ja1 W5 bl (.int .i64 l3)));clear hW5 k0 b0 b1 b2 b3 b4 b5 b6 HX HC HG HBw;have hne':bl≠w.heap.size:=fun e=>hne e.symm;obtain⟨b0,b1,b2,b3,b4,b5,b6⟩:=HX5.out.cells;clear HX5 HC5 HG5;by_cases t1:l3<0
    ·have g1:decide (l3<0)=true:=by simpa using t1
     have HF:=hid (show smallS n d l=(false,l3) by rw [HS.out,←HSP.out,if_pos (.inl t1)]);go_wp2_with fail
     go_ret
     exact⟨Jbk HF.out,Jcl HF.out HC6.out,HG6.out⟩
    ·have g1:decide (l3<0)=false:=by simp;omega
     by_cases t2:d<0
     ·have g2:decide (d<0)=true:=by simpa using t2
      have HF:=hid (show smallS n d l=(false,l3) by rw [HS.out,←HSP.out,if_pos (.inr t2)]);clear t1;go_wp2_with fail
      go_ret
      exact⟨Jbk HF.out,Jcl HF.out HC6.out,HG6.out⟩
     ·have g2:decide (d<0)=false:=by simp;omega
      have HF:=hid (show smallS n d l=smallL n.I (d - 1) l3 by rw [HS.out,←HSP.out,if_neg (fun h=>h.elim t1 t2)]);clear t1;go_wp2_with fail
      clear b0 b1 b2 b3 b4 b5 b6 hfz hcl hw5 hne' g1 g2;go_loopw [59] (fun c wq=>∃(j:Nat) (lj:Int),j≤n.I.length∧c= .int .i64 j∧Hid (smallL n.I (d - 1) l3=smallL (n.I.drop j) (d - 1) lj)∧ -9223372036854775808≤lj∧lj≤9223372036854775807∧Box wq w.heap.size n r∧Cnt wq bl lj∧w.grownBy wq (some bl))
       (fun c _=>n.I.length - (intOf c).toNat)
      case atStart=>exact⟨0,l3,Nat.zero_le _,rfl,hid rfl,hl3b.1,hl3b.2,HX6.out,HC6.out,HG6.out⟩
      case round=>
       obtain⟨j,lj,hj,rfl,HLJ,hq1,hq2,hbx,hcn,hgr⟩:=hrel;rename World=>wq;have HX:=hid hbx;have HC:=hid hcn;have HG:=hid hgr;clear hbx hcn hgr HX6 HC6 HG6;have HBw:=hid (below_grown HB.out (Nat.le_refl _) HG.out hbl);by_cases hlt2:j<n.I.length
       ·obtain⟨x,hx⟩:∃x,n.I[j]?=some x:=⟨_,List.getElem?_eq_getElem hlt2⟩
        obtain⟨r',hr',b,off,hAi,hB,c0,c1,c2,c3,c4,c5,c6⟩:=HN.out.entry hx HBw.out;have hdx:depth x<k:=by have:=Jbv hx;have:=Jah n;omega
        obtain⟨p1,hp1⟩:=words.nm ((smallS x (d - 1) lj).1);obtain⟨p2,hp2⟩:=words.nm ((smallS x (d - 1) lj).2);have hp2b: -9223372036854775808≤p2∧p2≤9223372036854775807:=by rw [hp2];exact Jci _ _ _
        have HLX:=hid (show smallL (n.I.drop j) (d - 1) lj=if p1=true then smallL (n.I.drop (j+1)) (d - 1) p2 else (false,p2) by rw [drop_at hx,Jbr,←hp1,←hp2]);have HW:=hid (show wq.grownBy (wq.alloc (.cells (rawCells x r') 46)) (some bl) from World.grownBy_alloc _ _ _);have HI:=hid (IH.out x r' (d - 1) lj bl (wq.alloc (.cells (rawCells x r') 46)) hdx hr' (HBw.out.alloc HBw.out.size _) hbl (HC.out.alloc _) (by omega) (by omega) hq1 hq2);rw [←hp1,←hp2] at HI;have HXa:=hid (HX.out.alloc (.cells (rawCells x r') 46));unfold ndV rawCells at HI;unfold rawCells at HW;rw [hAi];clear hx hr' hp1 hp2 hAi;go_wp2_with fail
        refine HI.out.mono ?_;rintro e w5 ⟨rfl,hc5,hg5⟩;have HC5:=hid hc5;have HX5:=hid (HXa.out.grown hg5 (fun e=>hne (by injection e)));have HG5:=hid (Jae HG.out (Jae HW.out hg5));clear hc5 hg5 HI HXa HW;cases p1
        ·have HF2:=hid (show smallS n d l=(false,p2) by rw [HF.out,HLJ.out,HLX.out];rfl)
         go_wp2_with fail
         go_ret
         exact⟨Jbk HF2.out,Jcl HF2.out HC5.out,HG5.out⟩
        ·have HN2:=hid (show smallL n.I (d - 1) l3=smallL (n.I.drop (j+1)) (d - 1) p2 by rw [HLJ.out,HLX.out];rfl)
         go_wp2_with fail
         go_roundw
         case rel=>exact⟨j+1,p2,by omega,by go_num,HN2,hp2b.1,hp2b.2,HX5.out,HC5.out,HG5.out⟩
         case measure=>simp [intOf];omega
       ·have HF2:=hid (show smallS n d l=(true,lj) by rw [HF.out,HLJ.out,List.drop_of_length_le (by omega),Jda])
        go_wp2_with fail
        go_ret
        exact⟨Jbk HF2.out,Jcl HF2.out HC.out,HG.out⟩

structure Asker (W0:World) (g:Nat) (lb:Array Value) (row:Option Nat) (R:Int→World→Prop) (st:Nd→Int→Int→Bool×Int):Prop where
 enters:∀(args:Array Value) (w:World),(callFunc g args).run prog w= .ok (.enter g args) w
 call:∀(n:Nd) (r:Raw) (d c:Int) (w:World),NdAt W0 W0.heap.size n r→Below W0.heap.size W0 w→R c w→0≤d→d≤1000000→
  Calls prog g (#[ndV n r,.int .i64 d]++lb) w fun e w'=>e= .returned (.bool (st n d c).1)∧R (st n d c).2 w'∧w.grownBy w' row
 keep:∀c w w',R c w→w.grownBy w' none→R c w'
 far:∀c w b,R c w→row=some b→W0.heap.size≤b∧b<w.heap.size
theorem Jkr {B:Nat} {W0 w w':World} {row:Option Nat} (hb:Below B W0 w) (hB:B≤W0.heap.size) (hg:w.grownBy w' row) (hBg:∀b,row=some b→B≤b):Below B W0 w':=
 hb.trans ⟨hg.os,hg.tape,hg.output,hg.size,fun k hk=>hg.block k (Nat.lt_of_lt_of_le (Nat.lt_of_lt_of_le hk hB) hb.size) (fun e=>by have:=hBg k e.symm;omega)⟩
theorem Jbb (w:World) (o:Obj) (row:Option Nat):w.grownBy (w.alloc o) row:=World.grownBy_alloc _ _ _
theorem Jr4 {W0:World} {g:Nat} {lb:Array Value} {row:Option Nat} {R:Int→World→Prop} {st:Nd→Int→Int→Bool×Int} (A:Asker W0 g lb row R st):
  ∀(k:Nat) (n:Nd) (r:Raw) (d c:Int) (w:World),depth n<k→NdAt W0 W0.heap.size n r→Below W0.heap.size W0 w→R c w→0≤d→d+k≤1000000→
  Calls prog 149 #[ndV n r,.int .i64 d,.func (.func g) #[] lb] w fun e w'=>e= .returned (.bool (eachS st n d c).1)∧R (eachS st n d c).2 w'∧w.grownBy w' row:=by
 intro k
 induction k with
 |zero=>intro n r d c w hk;omega
 |succ k ih=>
  intro n r d c w hk hN hb hR hd1 hd2;have IH:=hid ih;have f4:=hN.fit.li;have HN:=hid hN;have HB:=hid hb;have HA:=hid A;have hent:=A.enters;obtain⟨W1,hW1⟩:=words.nm (w.alloc (.cells (rawCells n r) 46));have HX1:Hid (Box W1 w.heap.size n r):=by rw [hW1];exact hid (Box.new w n r)
  have HG1:Hid (w.grownBy W1 row):=by rw [hW1];exact hid (Jbb w _ _)
  have HB1:Hid (Below W0.heap.size W0 W1):=by rw [hW1];exact hid (hb.alloc hb.size _)
  have HR1:Hid (R c W1):=by rw [hW1];exact hid (A.keep c w _ hR (Jbb w _ _))
  unfold rawCells at hW1;have HW1:=hid hW1;have HFar:Hid (∀b,row=some b→W0.heap.size≤b∧b<w.heap.size):=hid fun b hb'=>A.far c w b hR hb';obtain⟨p1,hp1⟩:=words.nm ((st n d c).1);obtain⟨p2,hp2⟩:=words.nm ((st n d c).2);have HS:=hid (show eachS st n d c=if p1=true then eachL st n.I (d+1) p2 else (false,p2) by rw [Jd9,←hp1,←hp2]);have HC:=hid (A.call n r d c W1 hN HB1.out HR1.out hd1 (by omega));rw [←hp1,←hp2] at HC;unfold ndV rawCells at HC;clear hN hb hR hW1 ih A hp1 hp2;unfold ndV rawCells;go_enter func149,ntmps149
  go_wp2_with fail
  rw [←HW1.out];obtain⟨b0,b1,b2,b3,b4,b5,b6⟩:=HX1.out.cells;go_wp2_with fail
  refine HC.out.mono ?_;rintro e w2 ⟨rfl,hr2,hg2⟩;have hne:some w.heap.size≠row:=fun e=>by have:=(HFar.out _ e.symm).2;omega
  have HX2:=hid (HX1.out.grown hg2 hne);have HG2:=hid (Jae HG1.out hg2);have HB2:=hid (Jkr HB1.out (Nat.le_refl _) hg2 (fun b hb'=>(HFar.out b hb').1));have HR2:=hid hr2;clear hr2 hg2 HC HX1 HG1 HB1 HR1 b0 b1 b2 b3 b4 b5 b6 HW1;cases p1
  ·have HF:=hid (show eachS st n d c=(false,p2) by rw [HS.out];rfl)
   go_wp2_with fail
   go_ret
   exact⟨Jbk HF.out,by rw [HF.out];exact HR2.out,HG2.out⟩
  ·have HF:=hid (show eachS st n d c=eachL st n.I (d+1) p2 by rw [HS.out];rfl)
   obtain⟨b0,b1,b2,b3,b4,b5,b6⟩:=HX2.out.cells;go_wp2_with fail
   clear b0 b1 b2 b3 b4 b5 b6;go_loopw [17] (fun v wr=>∃(j:Nat) (cj:Int),j≤n.I.length∧v= .int .i64 j∧Hid (eachL st n.I (d+1) p2=eachL st (n.I.drop j) (d+1) cj)∧R cj wr∧Below W0.heap.size W0 wr∧w.grownBy wr row)
    (fun v _=>n.I.length - (intOf v).toNat)
   case atStart=>exact⟨0,p2,Nat.zero_le _,rfl,hid rfl,HR2.out,HB2.out,HG2.out⟩
   case round=>
    obtain⟨j,cj,hj,rfl,HLJ,hR,hbw,hgr⟩:=hrel;have HR:=hid hR;have HBw:=hid hbw;have HG:=hid hgr;clear hR hbw hgr HR2 HB2 HG2 HX2;by_cases hlt2:j<n.I.length
    ·obtain⟨x,hx⟩:∃x,n.I[j]?=some x:=⟨_,List.getElem?_eq_getElem hlt2⟩
     obtain⟨r',hr',b,off,hAi,hB,c0,c1,c2,c3,c4,c5,c6⟩:=HN.out.entry hx HBw.out;have hdx:depth x<k:=by have:=Jbv hx;have:=Jah n;omega
     obtain⟨q1,hq1⟩:=words.nm ((eachS st x (d+1) cj).1);obtain⟨q2,hq2⟩:=words.nm ((eachS st x (d+1) cj).2);have HLX:=hid (show eachL st (n.I.drop j) (d+1) cj=if q1=true then eachL st (n.I.drop (j+1)) (d+1) q2 else (false,q2) by rw [drop_at hx,Jb4,←hq1,←hq2]);have HW:=hid (Jbb wr (.cells (rawCells x r') 46) row);have HI:=hid (IH.out x r' (d+1) cj (wr.alloc (.cells (rawCells x r') 46)) hdx hr' (HBw.out.alloc HBw.out.size _) (HA.out.keep _ _ _ HR.out (Jbb _ _ _)) (by omega) (by omega));rw [←hq1,←hq2] at HI;unfold ndV rawCells at HI;unfold rawCells at HW;rw [hAi];clear hx hr' hq1 hq2 hAi hent;go_wp2_with fail
     refine HI.out.mono ?_;rintro e w5 ⟨rfl,hr5,hg5⟩;have HR5:=hid hr5;have HG5:=hid (Jae HG.out (Jae HW.out hg5));have HB5:=hid (Jkr HBw.out (Nat.le_refl _) (Jae HW.out hg5) (fun b hb'=>(HFar.out b hb').1));clear hr5 hg5 HI HW;cases q1
     ·have HF2:=hid (show eachS st n d c=(false,q2) by rw [HF.out,HLJ.out,HLX.out];rfl)
      go_wp2_with fail
      go_ret
      exact⟨Jbk HF2.out,by rw [HF2.out];exact HR5.out,HG5.out⟩
     ·have HN2:=hid (show eachL st n.I (d+1) p2=eachL st (n.I.drop (j+1)) (d+1) q2 by rw [HLJ.out,HLX.out];rfl)
      go_wp2_with fail
      go_roundw
      case rel=>exact⟨j+1,q2,by omega,by go_num,HN2,HR5.out,HB5.out,HG5.out⟩
      case measure=>simp [intOf];omega
    ·have HF2:=hid (show eachS st n d c=(true,cj) by rw [HF.out,HLJ.out,List.drop_of_length_le (by omega),Jer])
     clear hent;go_wp2_with fail
     go_ret
     exact⟨Jbk HF2.out,by rw [HF2.out];exact HR.out,HG.out⟩
end Go.Proofs.YtekekhgjobahaaaGreatDoor.tre
