import Derived.Test.YtkjpgheealfedaaGreatDoorJI
import Derived.Laws.AppendOwnNone
set_option maxRecDepth 100000
open Go.Proofs.Tryz
namespace Go.Proofs.YtkjpgheealfedaaGreatDoor.tre
open Go.RowKit words ext name

theorem Jbs:∀(L M:List Nd) (rs:Nat→Raw),rowCells (L++M) rs=rowCells L rs++rowCells M (fun i=>rs (L.length+i))
 |[],M,rs=>by
  rw [List.nil_append];show _=[]++_;rw [List.nil_append];congr 1;funext i;rw [show ([]:List Nd).length+i=i by simp]
 |x::L,M,rs=>by
  rw [List.cons_append,rowCells,Jbs L M (fun i=>rs (i+1)),rowCells,List.append_assoc];congr 2;congr 1;funext i;rw [show L.length+i+1=(x::L).length+i by simp;omega]
theorem own_base {w:World} {B B' size n:Nat} {E:TypeId} {v:Value} {xs:List Value} (h:w.ownsRow B E size v n xs) (hB:B'≤B):w.ownsRow B' E size v n xs:=by
 refine⟨h.1,?_⟩;rcases h.2 with h0 |⟨g,cap,cur,h1,h2,h3⟩
 ·exact .inl h0
 ·exact .inr ⟨g,cap,cur,h1,Nat.le_trans hB h2,h3⟩

def cb:ByteArray:=⟨#[99]⟩
def xyz:ByteArray:=⟨#[120,121,122]⟩
def dC:Nd:=dirN [cb] [whiteN]
def dT:Nd:=dirN [ab,bb] [dC,textN xyz]
theorem Jse {x y:ByteArray} (h:x.data.toList=y.data.toList):x=y:=by
 obtain⟨⟨a⟩⟩:=x;obtain⟨⟨b⟩⟩:=y;simp only at h;subst h;rfl

theorem Jcg (x:Nd):(aloneN x).K=x.K:=by cases x;rfl
theorem Jsl (x:Nd):(aloneN x).O=x.O:=by cases x;rfl
theorem Jhh (x:Nd):(aloneN x).N=x.N:=by cases x;rfl
theorem Jr8 (x:Nd):(aloneN x).T=x.T:=by cases x;rfl
theorem Jqv {n:Nd} (h:refB n=true):allB n=true:=by
 unfold refB at h;simp only [Bool.and_eq_true] at h;exact h.1.1.2
structure Okay (n:Nd):Prop where
 dep:depth n≤30
 cnt:count n≤400
 cc:countC n=(count n:Int)
 all:allB n=true
theorem Jjs {n:Nd} (hs:smallB n=true) (ht:Tame n) (hr:treeB n=true):Okay n:=by
 have h1:=Jck hs;rw [Jf2 hs ht] at hr;have ha:=Jqv hr;have hc:=Je2 hs ha ht;refine⟨h1,hc,?_,ha⟩;rw [Jou (by omega)];unfold wrap64;omega
theorem Jcs {n x:Nd} {k:Nat} (h:(preN n)[k]?=some x):(flatN 0 n)[k]?=some (entOf k x):=by
 have:=Jmr (k:=0) h;rw [Nat.zero_add] at this;exact this

mutual
theorem Jhf:∀(n x:Nd),x∈preN n→depth x≤depth n∧count x≤count n∧(allB n=true→allB x=true)
 | .mk K O N I S E T,x,h=>by
  rw [preN] at h;rcases List.mem_cons.1 h with rfl |h
  ·exact⟨Nat.le_refl _,Nat.le_refl _,id⟩
  ·obtain⟨h1,h2,h3⟩:=Jng I x h
   refine⟨by rw [depth];omega,by rw [count];omega,fun ha=>h3 ?_⟩;rw [allB] at ha;exact (Bool.and_eq_true _ _▸ha).1
theorem Jng:∀(L:List Nd) (x:Nd),x∈preL L→depth x+1≤depthL L∧count x≤countL L∧(allL L=true→allB x=true)
 |[],x,h=>by rw [Jdp] at h;cases h
 |y::L,x,h=>by
  rw [Jbc] at h;rw [Jam,Jai,Jb2];rcases List.mem_append.1 h with h |h
  ·obtain⟨h1,h2,h3⟩:=Jhf y x h
   refine⟨by omega,by omega,fun ha=>h3 ?_⟩;exact (Bool.and_eq_true _ _▸ha).1
  ·obtain⟨h1,h2,h3⟩:=Jng L x h
   refine⟨by omega,by omega,fun ha=>h3 ?_⟩;exact (Bool.and_eq_true _ _▸ha).2
end
theorem Jhk {n:Nd} (h:allB n=true):oneB n=true:=by
 rw [Jec] at h;exact (Bool.and_eq_true _ _▸h).2
theorem Jhj {n:Nd} (h:noneB n=true):n.N.length=0∧n.I.length=0:=by
 unfold noneB at h;simp only [Bool.and_eq_true,beq_iff_eq] at h;exact⟨h.1.2,h.2⟩
theorem Jdk {n:Nd} (h:emptyB n=true):rightB n.S n.E=true:=by
 unfold emptyB at h;simp only [Bool.and_eq_true,beq_iff_eq] at h;rw [h.1,List.eq_nil_of_length_eq_zero h.2];decide
theorem Jbd {n:Nd} (h:oneB n=true):Asc n.N∧n.N.length=n.I.length∧rightB n.S n.E=true:=by
 by_cases h1:n.K=1
 ·rw [Jkn h1] at h
  simp only [Bool.and_eq_true] at h;obtain⟨a,b⟩:=Jhj h.1.1;exact⟨by rw [List.eq_nil_of_length_eq_zero a];exact fun _ _ _ _ _ hx=>(Jgi hx).elim,by omega,h.2⟩
 by_cases h2:n.K=2
 ·rw [Jkd h2] at h
  simp only [Bool.and_eq_true,beq_iff_eq] at h;exact⟨Jox h.2.2,h.2.1,Jdk h.1.1⟩
 by_cases h3:n.K=3
 ·rw [Jlj h3] at h
  simp only [Bool.and_eq_true] at h;obtain⟨a,b⟩:=Jhj h.1.1;exact⟨by rw [List.eq_nil_of_length_eq_zero a];exact fun _ _ _ _ _ hx=>(Jgi hx).elim,by omega,Jdk h.1.2⟩
 by_cases h4:n.K=4
 ·rw [Jkg h4] at h
  simp only [Bool.and_eq_true] at h;obtain⟨a,b⟩:=Jhj h.1.1;exact⟨by rw [List.eq_nil_of_length_eq_zero a];exact fun _ _ _ _ _ hx=>(Jgi hx).elim,by omega,Jdk h.1.2⟩
 rw [Jle h1 h2 h3 h4] at h;cases h
theorem Jaf {P:Program} {w:World} {ops:Array Oper} {rest:List Oper} {o:Oper} {a:Act} {Q:Exit→Act→World→Prop} (hgd:o.guard=none) (s x:Operand) (t:TypeId)
  (ho:o.op= .call {callee:= .builtin .append,args:=#[s,x],argTypes:=#[t,t]})
  (base:Nat) (e:TypeId) (i:TypeInfo) (z:Value) (size bytes:Nat) (ht:P.underlying t=some (.slice e)) (hi:P.info? e=some i) (hz:i.zero=some z)
  (hsize:i.size=size) (hby:i.bytes=bytes) (hzs:z.cells.size=size) (hsz:0<size)
  (v:Value) (n:Nat) (xs:List Value) (hs:a.eval s=v) (hown:w.ownsRow base e size v n xs)
  (A:Option Addr) (m c:Nat) (news:List Value) (hA:A=none→m=0∧c=0) (hx:a.eval x= .slice A m c) (hl:news.length=m*size) (hnews:Lies w A news) (h1:∀u∈news,u.oneCell'=true)
  (h63:n+m≤maxLen) (hbytes:(n+m)*bytes≤140737488355328) (hbase:base≤w.heap.size)
  (h:∀v' w',w'.ownsRow base e size v' (n+m) (xs++news)→w.grownBy w' v.ownBlock→wpList P ops Q rest (a.put o.dst v') w'):wpList P ops Q (o::rest) a w:=by
 rcases A with _ |ad
 ·obtain⟨rfl,rfl⟩:=hA rfl
  have hn:news=[]:=List.eq_nil_of_length_eq_zero (by rw [hl,Nat.zero_mul]);refine wpList_append_own_none hgd s x t ho base e i size ht hi v n xs hs hown hx (h v w ?_ ⟨rfl,rfl,rfl,Nat.le_refl _,fun _ _ _=>rfl⟩);rw [hn,List.append_nil,Nat.add_zero];exact hown
 ·refine wpList_append_own w hgd s x t ho base e i z size bytes ht hi hz hsize hby hzs hsz v n xs hs hown ad m c news hx hl (fun j u hj=>?_) h1 h63 hbytes hbase fun v' w' k1 k2 _=>h v' w' k1 k2
  obtain⟨b,off,e1,_,e3⟩:=hnews j u hj;injection e1 with e1;subst e1;rw [Jas];exact e3


def Looked (x:Nd) (k:Nat) (y:ByteArray) (w:World) (e:Ending) (w':World):Prop:=
 ((∃q:Nat,x.N[q]?=some y∧q<x.I.length∧e= .returned (.tuple #[.int .i64 ((k+1+countL (x.I.take q):Nat):Int),.bool true]))∨(e= .returned (.tuple #[.int .i64 0,.bool false])∧∀j:Nat,x.N[j]?≠some y))∧Below w.heap.size w w'
theorem Jmh (g k:Nat) (n x:Nd) (y:ByteArray) (w:World) (h:Brn w w.heap.size g (flatN 0 n)) (hx:(preN n)[k]?=some x) (ho:oneB x=true):
  Calls prog 98 #[.pointer (some ⟨g,0,none⟩),.int .i64 (k:Int),.string y] w (Looked x k y w):=by
 obtain⟨h1,h2,_⟩:=Jbd ho;have hl:(entOf k x).ids.length=x.I.length:=Jbe _ _;have hN:(entOf k x).x.N=x.N:=Jhh x;refine (Jit g k _ _ y w h (Jcs hx) (by rw [hN];exact h1) (by rw [hl,hN];exact h2.symm)).mono fun e w' ⟨hh,hb⟩=>⟨?_,hb⟩
 rw [hN] at hh;rcases hh with⟨q,id,e1,e2,e3⟩ |⟨e1,e2⟩
 ·have hq:q<x.I.length:=by rw [←h2];exact (List.getElem?_eq_some_iff.1 e1).1
  have e4:=Jd3 (k:=k+1) hq;rw [show (entOf k x).ids=kidsL (k+1) x.I from rfl,e4] at e2;obtain rfl:=Option.some.inj e2;exact .inl ⟨q,e1,hq,e3⟩
 ·exact .inr ⟨e1,e2⟩

end Go.Proofs.YtkjpgheealfedaaGreatDoor.tre
