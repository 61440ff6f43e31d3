import Derived.Test.YtekekhgjobahaaaGreatDoorG15
import Derived.Test.YtekekhgjobahaaaGreatDoorG16
import Derived.StillTailTactics
import Derived.Deep.LoopGhost
set_option maxHeartbeats 6400000
set_option maxRecDepth 100000
open Go.Lib (hid)
open Go.Proofs.Tryz
namespace Go.Proofs.YtekekhgjobahaaaGreatDoor.tre
open Go.RowKit ext name

inductive Nd where
 |mk (K:Int) (O:Bool) (N:List ByteArray) (I:List Nd) (S:Int) (E:List Ex) (T:ByteArray)
def Nd.K:Nd→Int | .mk K _ _ _ _ _ _=>K
def Nd.O:Nd→Bool | .mk _ O _ _ _ _ _=>O
def Nd.N:Nd→List ByteArray | .mk _ _ N _ _ _ _=>N
def Nd.I:Nd→List Nd | .mk _ _ _ I _ _ _=>I
def Nd.S:Nd→Int | .mk _ _ _ _ S _ _=>S
def Nd.E:Nd→List Ex | .mk _ _ _ _ _ E _=>E
def Nd.T:Nd→ByteArray | .mk _ _ _ _ _ _ T=>T
mutual
def count:Nd→Nat
 | .mk _ _ _ I _ _ _=>1+countL I
def countL:List Nd→Nat
 |[]=>0
 |x::L=>count x+countL L
end
mutual
def depth:Nd→Nat
 | .mk _ _ _ I _ _ _=>depthL I
def depthL:List Nd→Nat
 |[]=>0
 |x::L=>max (depth x+1) (depthL L)
end
theorem Jgk (n:Nd):depth n=depthL n.I:=by cases n;rw [depth];rfl
theorem Jby (x:Nd) (L:List Nd):depthL (x::L)=max (depth x+1) (depthL L):=by rw [depthL]
theorem Jgu:∀{L:List Nd} {i:Nat} {x:Nd},L[i]?=some x→depth x+1≤depthL L
 |[],i,x,h=>by simp at h
 |y::L,0,x,h=>by
  obtain rfl:y=x:=by simpa using h
  rw [Jby];exact Nat.le_max_left _ _
 |y::L,i+1,x,h=>by
  have:=Jgu (L:=L) (i:=i) (x:=x) (by simpa using h);rw [Jby];exact Nat.le_trans this (Nat.le_max_right _ _)
section
variable (st:Nd→Int→Int→Bool×Int)
mutual
def eachS:Nd→Int→Int→Bool×Int
 | .mk K O N I S E T,d,c=>if (st (.mk K O N I S E T) d c).1=true then eachL I (d+1) (st (.mk K O N I S E T) d c).2 else (false,(st (.mk K O N I S E T) d c).2)
def eachL:List Nd→Int→Int→Bool×Int
 |[],_,c=>(true,c)
 |x::L,d,c=>if (eachS x d c).1=true then eachL L d (eachS x d c).2 else (false,(eachS x d c).2)
end
theorem Jgl (n:Nd) (d c:Int):eachS st n d c=if (st n d c).1=true then eachL st n.I (d+1) (st n d c).2 else (false,(st n d c).2):=by cases n;rw [eachS];rfl
theorem Jfd (d c:Int):eachL st [] d c=(true,c):=by rw [eachL]
theorem Jdi (x:Nd) (L:List Nd) (d c:Int):eachL st (x::L) d c=if (eachS st x d c).1=true then eachL st L d (eachS st x d c).2 else (false,(eachS st x d c).2):=by rw [eachL]
end

def lessB (a b:ByteArray):Bool:=Op.bytesLess a.toList b.toList
def stE (_:Nd) (d c:Int):Bool×Int:=(decide (d≤65536),c)
end Go.Proofs.YtekekhgjobahaaaGreatDoor.tre

namespace Go.Proofs.YtekekhgjobahaaaGreatDoor.tre
open Go.RowKit words ext name

def Txts (w:World) (B:Nat) (A:Option Addr) (Q:List ByteArray):Prop:=
 ∀i x,Q[i]?=some x→(∃b off,A=some ⟨b,off,none⟩∧b<B∧w.cell? ⟨b,off+i,none⟩=some (.string x))∧x.size≤140737488355328
theorem Txts.keep {w w':World} {B:Nat} {A:Option Addr} {Q:List ByteArray} (h:Txts w B A Q) (hb:Below B w w'):Txts w' B A Q:=fun i x hx=>by
 obtain⟨⟨b,off,hA,hB,c0⟩,h1⟩:=h i x hx;exact⟨⟨b,off,hA,hB,(hb.cell (p:=⟨b,off+i,none⟩) hB).trans c0⟩,h1⟩
theorem Txts.more {w:World} {B B':Nat} {A:Option Addr} {Q:List ByteArray} (h:Txts w B A Q) (hB':B≤B'):Txts w B' A Q:=fun i x hx=>by
 obtain⟨⟨b,off,hA,hB,c⟩,h1⟩:=h i x hx;exact⟨⟨b,off,hA,Nat.lt_of_lt_of_le hB hB',c⟩,h1⟩

structure Raw where
 An:Option Addr
 cn:Nat
 Ai:Option Addr
 ci:Nat
 Ae:Option Addr
 ce:Nat
def rawCells (n:Nd) (r:Raw):Array Value:=
 #[.int .i64 n.K,.bool n.O,.slice r.An n.N.length r.cn,.slice r.Ai n.I.length r.ci,.int .i64 n.S,.slice r.Ae n.E.length r.ce,.string n.T]
structure Fit (n:Nd) (r:Raw):Prop where
 k1: -9223372036854775808≤n.K
 k2:n.K≤9223372036854775807
 s1: -9223372036854775808≤n.S
 s2:n.S≤9223372036854775807
 t:n.T.size≤140737488355328
 ln:n.N.length*16≤140737488355328
 li:n.I.length*112≤140737488355328
 le:n.E.length*24≤140737488355328
 cn:n.N.length≤r.cn
 ci:n.I.length≤r.ci
 ce:n.E.length≤r.ce
 zn:r.An=none→n.N.length=0∧r.cn=0
 zi:r.Ai=none→n.I.length=0∧r.ci=0
 ze:r.Ae=none→n.E.length=0∧r.ce=0
inductive NdAt (w:World) (B:Nat):Nd→Raw→Prop
 |mk {n:Nd} {r:Raw} (rs:Nat→Raw) (fit:Fit n r) (names:Txts w B r.An n.N) (exts:Exts w B r.Ae n.E)
   (cells:∀i x,n.I[i]?=some x→∃b off,r.Ai=some ⟨b,off,none⟩∧b<B∧∀j v,(rawCells x (rs i))[j]?=some v→w.cell? ⟨b,off+i*7+j,none⟩=some v)
   (items:∀i x,n.I[i]?=some x→NdAt w B x (rs i)):NdAt w B n r
section
variable {w w':World} {B B':Nat} {n:Nd} {r:Raw}
theorem NdAt.fit (h:NdAt w B n r):Fit n r:=by cases h;assumption
theorem NdAt.names (h:NdAt w B n r):Txts w B r.An n.N:=by cases h;assumption
theorem NdAt.exts (h:NdAt w B n r):Exts w B r.Ae n.E:=by cases h;assumption
theorem NdAt.item (h:NdAt w B n r) {i:Nat} {x:Nd} (hx:n.I[i]?=some x):
  ∃r',NdAt w B x r'∧∃b off,r.Ai=some ⟨b,off,none⟩∧b<B∧∀j v,(rawCells x r')[j]?=some v→w.cell? ⟨b,off+i*7+j,none⟩=some v:=by
 cases h with
 |mk rs _ _ _ hc hi=>
  obtain⟨b,off,h1,h2,h3⟩:=hc i x hx;exact⟨rs i,hi i x hx,b,off,h1,h2,h3⟩
theorem NdAt.keep (h:NdAt w B n r) (hb:Below B w w'):NdAt w' B n r:=by
 induction h with
 |mk rs fit names exts cells items ih=>
  refine .mk rs fit (names.keep hb) (exts.keep hb) (fun i x hx=>?_) ih;obtain⟨b,off,h1,h2,h3⟩:=cells i x hx;exact⟨b,off,h1,h2,fun j v hj=>(hb.cell (p:=⟨b,off+i*7+j,none⟩) h2).trans (h3 j v hj)⟩
theorem NdAt.more (h:NdAt w B n r) (hB:B≤B'):NdAt w B' n r:=by
 induction h with
 |mk rs fit names exts cells items ih=>
  refine .mk rs fit (names.more hB) (exts.more hB) (fun i x hx=>?_) ih;obtain⟨b,off,h1,h2,h3⟩:=cells i x hx;exact⟨b,off,h1,Nat.lt_of_lt_of_le h2 hB,h3⟩
theorem NdAt.later (h:NdAt w w.heap.size n r) (hb:Below w.heap.size w w'):NdAt w' w'.heap.size n r:=(h.keep hb).more hb.size
theorem NdAt.entry (h:NdAt w B n r) {i:Nat} {x:Nd} (hx:n.I[i]?=some x) (hb:Below B w w'):
  ∃r',NdAt w B x r'∧∃b off,r.Ai=some ⟨b,off,none⟩∧b<B∧w'.cell? ⟨b,off+i*7,none⟩=some (.int .i64 x.K)∧w'.cell? ⟨b,off+i*7+1,none⟩=some (.bool x.O)∧
   w'.cell? ⟨b,off+i*7+2,none⟩=some (.slice r'.An x.N.length r'.cn)∧w'.cell? ⟨b,off+i*7+3,none⟩=some (.slice r'.Ai x.I.length r'.ci)∧w'.cell? ⟨b,off+i*7+4,none⟩=some (.int .i64 x.S)∧
   w'.cell? ⟨b,off+i*7+5,none⟩=some (.slice r'.Ae x.E.length r'.ce)∧w'.cell? ⟨b,off+i*7+6,none⟩=some (.string x.T):=by
 obtain⟨r',hr,b,off,h1,h2,h3⟩:=h.item hx;have g:=fun j v hj=>(hb.cell (p:=⟨b,off+i*7+j,none⟩) h2).trans (h3 j v hj);exact⟨r',hr,b,off,h1,h2,g 0 _ rfl,g 1 _ rfl,g 2 _ rfl,g 3 _ rfl,g 4 _ rfl,g 5 _ rfl,g 6 _ rfl⟩
end
def Box (w:World) (g:Nat) (n:Nd) (r:Raw):Prop:=w.heap[g]?=some (.cells (rawCells n r) 46 (0,0))
theorem Box.cells {w:World} {g:Nat} {n:Nd} {r:Raw} (h:Box w g n r):w.cell? ⟨g,0,none⟩=some (.int .i64 n.K)∧w.cell? ⟨g,1,none⟩=some (.bool n.O)∧w.cell? ⟨g,2,none⟩=some (.slice r.An n.N.length r.cn)∧
  w.cell? ⟨g,3,none⟩=some (.slice r.Ai n.I.length r.ci)∧w.cell? ⟨g,4,none⟩=some (.int .i64 n.S)∧w.cell? ⟨g,5,none⟩=some (.slice r.Ae n.E.length r.ce)∧w.cell? ⟨g,6,none⟩=some (.string n.T):=
 ⟨Jaa h 0,Jaa h 1,Jaa h 2,Jaa h 3,Jaa h 4,Jaa h 5,Jaa h 6⟩
theorem Box.new (w:World) (n:Nd) (r:Raw):Box (w.alloc (.cells (rawCells n r) 46)) w.heap.size n r:=heap_alloc_new w _
theorem Box.lt {w:World} {g:Nat} {n:Nd} {r:Raw} (h:Box w g n r):g<w.heap.size:=lt_of_some h
theorem Box.below {w w':World} {g:Nat} {n:Nd} {r:Raw} (h:Box w g n r) (hb:Below w.heap.size w w'):Box w' g n r:=(hb.block g h.lt).trans h
theorem Box.grown {w w':World} {g:Nat} {n:Nd} {r:Raw} {row:Option Nat} (h:Box w g n r) (hb:w.grownBy w' row) (hne:some g≠row):Box w' g n r:=(hb.block g h.lt hne).trans h
theorem Box.alloc {w:World} {g:Nat} {n:Nd} {r:Raw} (h:Box w g n r) (o:Obj):Box (w.alloc o) g n r:=(Below.heap_alloc _ _ _ h.lt).trans h
def ndV (n:Nd) (r:Raw):Value:= .agg (rawCells n r)

theorem Jag {a b c:World} {row:Option Nat} (h:a.grownBy b row) (k:b.grownBy c row):a.grownBy c row:=
 ⟨k.os.trans h.os,k.tape.trans h.tape,k.output.trans h.output,Nat.le_trans h.size k.size,fun i hi hne=>(k.block i (Nat.lt_of_lt_of_le hi h.size) hne).trans (h.block i hi hne)⟩
theorem Jar {a w:World} (h:Below a.heap.size a w) (row:Option Nat):a.grownBy w row:=⟨h.os,h.tape,h.output,h.size,fun i hi _=>h.block i hi⟩
theorem Jfl {p:Bool×Int} {b:Bool} {c:Int} (h:p=(b,c)):Ending.returned (.bool b)= .returned (.bool p.1):=by subst h;rfl

structure Asker (W0:World) (g:Nat) (lb:Array Value) (row:Option Nat) (R:Int→World→Prop) (st:Nd→Int→Int→Bool×Int):Prop where
 enters:∀(args:Array Value) (w:World),(callFunc g args).run prog w= .ok (.enter g args) w
 call:∀(n:Nd) (r:Raw) (d c:Int) (w:World),NdAt W0 W0.heap.size n r→Below W0.heap.size W0 w→R c w→0≤d→d≤1000000→
  Calls prog g (#[ndV n r,.int .i64 d]++lb) w fun e w'=>e= .returned (.bool (st n d c).1)∧R (st n d c).2 w'∧w.grownBy w' row
 keep:∀c w w',R c w→w.grownBy w' none→R c w'
 far:∀c w b,R c w→row=some b→W0.heap.size≤b∧b<w.heap.size
theorem Jei {B:Nat} {W0 w w':World} {row:Option Nat} (hb:Below B W0 w) (hB:B≤W0.heap.size) (hg:w.grownBy w' row) (hBg:∀b,row=some b→B≤b):Below B W0 w':=
 hb.trans ⟨hg.os,hg.tape,hg.output,hg.size,fun k hk=>hg.block k (Nat.lt_of_lt_of_le (Nat.lt_of_lt_of_le hk hB) hb.size) (fun e=>by have:=hBg k e.symm;omega)⟩
theorem Ja8 (w:World) (o:Obj) (row:Option Nat):w.grownBy (w.alloc o) row:=World.grownBy_alloc _ _ _
theorem Jnh {W0:World} {g:Nat} {lb:Array Value} {row:Option Nat} {R:Int→World→Prop} {st:Nd→Int→Int→Bool×Int} (A:Asker W0 g lb row R st):
  ∀(k:Nat) (n:Nd) (r:Raw) (d c:Int) (w:World),depth n<k→NdAt W0 W0.heap.size n r→Below W0.heap.size W0 w→R c w→0≤d→d+k≤1000000→
  Calls prog 149 #[ndV n r,.int .i64 d,.func (.func g) #[] lb] w fun e w'=>e= .returned (.bool (eachS st n d c).1)∧R (eachS st n d c).2 w'∧w.grownBy w' row:=by
 intro k
 induction k with
 |zero=>intro n r d c w hk;omega
 |succ k ih=>
  intro n r d c w hk hN hb hR hd1 hd2;have IH:=hid ih;have f4:=hN.fit.li;have HN:=hid hN;have HB:=hid hb;have HA:=hid A;have hent:=A.enters;obtain⟨W1,hW1⟩:=words.nm (w.alloc (.cells (rawCells n r) 46));have HX1:Hid (Box W1 w.heap.size n r):=by rw [hW1];exact hid (Box.new w n r)
  have HG1:Hid (w.grownBy W1 row):=by rw [hW1];exact hid (Ja8 w _ _)
  have HB1:Hid (Below W0.heap.size W0 W1):=by rw [hW1];exact hid (hb.alloc hb.size _)
  have HR1:Hid (R c W1):=by rw [hW1];exact hid (A.keep c w _ hR (Ja8 w _ _))
  unfold rawCells at hW1;have HW1:=hid hW1;have HFar:Hid (∀b,row=some b→W0.heap.size≤b∧b<w.heap.size):=hid fun b hb'=>A.far c w b hR hb';obtain⟨p1,hp1⟩:=words.nm ((st n d c).1);obtain⟨p2,hp2⟩:=words.nm ((st n d c).2);have HS:=hid (show eachS st n d c=if p1=true then eachL st n.I (d+1) p2 else (false,p2) by rw [Jgl,←hp1,←hp2]);have HC:=hid (A.call n r d c W1 hN HB1.out HR1.out hd1 (by omega));rw [←hp1,←hp2] at HC;unfold ndV rawCells at HC;clear hN hb hR hW1 ih A hp1 hp2;unfold ndV rawCells;go_enter func149,ntmps149
  go_wp2_with fail
  rw [←HW1.out];obtain⟨b0,b1,b2,b3,b4,b5,b6⟩:=HX1.out.cells;go_wp2_with fail
  refine HC.out.mono ?_;rintro e w2 ⟨rfl,hr2,hg2⟩;have hne:some w.heap.size≠row:=fun e=>by have:=(HFar.out _ e.symm).2;omega
  have HX2:=hid (HX1.out.grown hg2 hne);have HG2:=hid (Jag HG1.out hg2);have HB2:=hid (Jei HB1.out (Nat.le_refl _) hg2 (fun b hb'=>(HFar.out b hb').1));have HR2:=hid hr2;clear hr2 hg2 HC HX1 HG1 HB1 HR1 b0 b1 b2 b3 b4 b5 b6 HW1;cases p1
  ·have HF:=hid (show eachS st n d c=(false,p2) by rw [HS.out];rfl)
   go_wp2_with fail
   go_ret
   exact⟨Jfl HF.out,by rw [HF.out];exact HR2.out,HG2.out⟩
  ·have HF:=hid (show eachS st n d c=eachL st n.I (d+1) p2 by rw [HS.out];rfl)
   obtain⟨b0,b1,b2,b3,b4,b5,b6⟩:=HX2.out.cells;go_wp2_with fail
   clear b0 b1 b2 b3 b4 b5 b6;go_loopw [17] (fun v wr=>∃(j:Nat) (cj:Int),j≤n.I.length∧v= .int .i64 j∧Hid (eachL st n.I (d+1) p2=eachL st (n.I.drop j) (d+1) cj)∧R cj wr∧Below W0.heap.size W0 wr∧w.grownBy wr row)
    (fun v _=>n.I.length - (intOf v).toNat)
   case atStart=>exact⟨0,p2,Nat.zero_le _,rfl,hid rfl,HR2.out,HB2.out,HG2.out⟩
   case round=>
    obtain⟨j,cj,hj,rfl,HLJ,hR,hbw,hgr⟩:=hrel;have HR:=hid hR;have HBw:=hid hbw;have HG:=hid hgr;clear hR hbw hgr HR2 HB2 HG2 HX2;by_cases hlt2:j<n.I.length
    ·obtain⟨x,hx⟩:∃x,n.I[j]?=some x:=⟨_,List.getElem?_eq_getElem hlt2⟩
     obtain⟨r',hr',b,off,hAi,hB,c0,c1,c2,c3,c4,c5,c6⟩:=HN.out.entry hx HBw.out;have hdx:depth x<k:=by have:=Jgu hx;have:=Jgk n;omega
     obtain⟨q1,hq1⟩:=words.nm ((eachS st x (d+1) cj).1);obtain⟨q2,hq2⟩:=words.nm ((eachS st x (d+1) cj).2);have HLX:=hid (show eachL st (n.I.drop j) (d+1) cj=if q1=true then eachL st (n.I.drop (j+1)) (d+1) q2 else (false,q2) by rw [drop_at hx,Jdi,←hq1,←hq2]);have HW:=hid (Ja8 wr (.cells (rawCells x r') 46) row);have HI:=hid (IH.out x r' (d+1) cj (wr.alloc (.cells (rawCells x r') 46)) hdx hr' (HBw.out.alloc HBw.out.size _) (HA.out.keep _ _ _ HR.out (Ja8 _ _ _)) (by omega) (by omega));rw [←hq1,←hq2] at HI;unfold ndV rawCells at HI;unfold rawCells at HW;rw [hAi];clear hx hr' hq1 hq2 hAi hent;go_wp2_with fail
     refine HI.out.mono ?_;rintro e w5 ⟨rfl,hr5,hg5⟩;have HR5:=hid hr5;have HG5:=hid (Jag HG.out (Jag HW.out hg5));have HB5:=hid (Jei HBw.out (Nat.le_refl _) (Jag HW.out hg5) (fun b hb'=>(HFar.out b hb').1));clear hr5 hg5 HI HW;cases q1
     ·have HF2:=hid (show eachS st n d c=(false,q2) by rw [HF.out,HLJ.out,HLX.out];rfl)
      go_wp2_with fail
      go_ret
      exact⟨Jfl HF2.out,by rw [HF2.out];exact HR5.out,HG5.out⟩
     ·have HN2:=hid (show eachL st n.I (d+1) p2=eachL st (n.I.drop (j+1)) (d+1) q2 by rw [HLJ.out,HLX.out];rfl)
      go_wp2_with fail
      go_roundw
      case rel=>exact⟨j+1,q2,by omega,by go_num,HN2,HR5.out,HB5.out,HG5.out⟩
      case measure=>simp [intOf];omega
    ·have HF2:=hid (show eachS st n d c=(true,cj) by rw [HF.out,HLJ.out,List.drop_of_length_le (by omega),Jfd])
     clear hent;go_wp2_with fail
     go_ret
     exact⟨Jfl HF2.out,by rw [HF2.out];exact HR.out,HG.out⟩
end Go.Proofs.YtekekhgjobahaaaGreatDoor.tre
