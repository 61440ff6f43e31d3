import Derived.Test.YtekekhgjobahaaaGreatDoorB4
import Derived.Laws.AppendOwnNone
set_option maxRecDepth 100000
namespace Go.Proofs.YtekekhgjobahaaaGreatDoor.tre
open Go.RowKit words ext name

theorem infoNode:(Tryz.prog.info? 46).map (fun i=>(i.zero,i.size,i.bytes))=some (some (.agg #[.int .i64 0,.bool false,.slice none 0 0,.slice none 0 0,.int .i64 0,.slice none 0 0,.string ⟨#[]⟩]),7,112):=by kernel_rfl
theorem Jbs {w w':World} {B size n:Nat} {E:TypeId} {v:Value} {xs:List Value} (h:w.ownsRow B E size v n xs) (hb:Below w.heap.size w w'):w'.ownsRow B E size v n xs:=by
 refine⟨h.1,?_⟩;rcases h.2 with h0 |⟨g,cap,cur,h1,h2,h3,h4⟩
 ·exact .inl h0
 ·exact .inr ⟨g,cap,cur,h1,h2,(hb.block g (lt_of_some h3)).trans h3,h4⟩
theorem Jce {w:World} {B B' size n:Nat} {E:TypeId} {v:Value} {xs:List Value} (h:w.ownsRow B E size v n xs) (hB:B'≤B):w.ownsRow B' E size v n xs:=by
 refine⟨h.1,?_⟩;rcases h.2 with h0 |⟨g,cap,cur,h1,h2,h3⟩
 ·exact .inl h0
 ·exact .inr ⟨g,cap,cur,h1,Nat.le_trans hB h2,h3⟩

def cb:ByteArray:=⟨#[99]⟩
def xyz:ByteArray:=⟨#[120,121,122]⟩
def dC:Nd:=dirN [cb] [whiteN]
def dT:Nd:=dirN [ab,bb] [dC,textN xyz]

theorem Jwk (x:Nd):(aloneN x).N=x.N:=by cases x;rfl
theorem Jty {n:Nd} (h:refB n=true):allB n=true:=by
 unfold refB at h;simp only [Bool.and_eq_true] at h;exact h.1.1.2
structure Okay (n:Nd):Prop where
 dep:depth n≤30
 cnt:count n≤400
 cc:countC n=(count n:Int)
 all:allB n=true
theorem Jwq {n:Nd} (hs:smallB n=true) (ht:Tame n) (hr:treeB n=true):Okay n:=by
 have h1:=Jfc hs;rw [Jj7 hs ht] at hr;have ha:=Jty hr;have hc:=Jfd hs ha ht;refine⟨h1,hc,?_,ha⟩;rw [Jj0 (by omega)];unfold wrap64;omega
theorem Jxl {n x:Nd} {k:Nat} (h:(preN n)[k]?=some x):(flatN 0 n)[k]?=some (entOf k x):=by
 have:=Jp4 (k:=0) h;rw [Nat.zero_add] at this;exact this

mutual
theorem Jqy:∀(n x:Nd),x∈preN n→depth x≤depth n∧count x≤count n∧(allB n=true→allB x=true)
 | .mk K O N I S E T,x,h=>by
  rw [preN] at h;rcases List.mem_cons.1 h with rfl |h
  ·exact⟨Nat.le_refl _,Nat.le_refl _,id⟩
  ·obtain⟨h1,h2,h3⟩:=Jrg I x h
   refine⟨by rw [depth];omega,by rw [count];omega,fun ha=>h3 ?_⟩;rw [allB] at ha;exact (Bool.and_eq_true _ _▸ha).1
theorem Jrg:∀(L:List Nd) (x:Nd),x∈preL L→depth x+1≤depthL L∧count x≤countL L∧(allL L=true→allB x=true)
 |[],x,h=>by rw [Jd0] at h;cases h
 |y::L,x,h=>by
  rw [Jbf] at h;rw [Jal,Jaf,Jbh];rcases List.mem_append.1 h with h |h
  ·obtain⟨h1,h2,h3⟩:=Jqy y x h
   refine⟨by omega,by omega,fun ha=>h3 ?_⟩;exact (Bool.and_eq_true _ _▸ha).1
  ·obtain⟨h1,h2,h3⟩:=Jrg L x h
   refine⟨by omega,by omega,fun ha=>h3 ?_⟩;exact (Bool.and_eq_true _ _▸ha).2
end
theorem Jia {n:Nd} (h:allB n=true):oneB n=true:=by
 rw [Jcc] at h;exact (Bool.and_eq_true _ _▸h).2
theorem Jfk {n:Nd} (h:noneB n=true):n.N.length=0∧n.I.length=0:=by
 unfold noneB at h;simp only [Bool.and_eq_true,beq_iff_eq] at h;exact⟨h.1.2,h.2⟩
theorem Jdo {n:Nd} (h:emptyB n=true):rightB n.S n.E=true:=by
 unfold emptyB at h;simp only [Bool.and_eq_true,beq_iff_eq] at h;rw [h.1,List.eq_nil_of_length_eq_zero h.2];decide
theorem Jki {n:Nd} (h:oneB n=true):Asc n.N∧n.N.length=n.I.length∧rightB n.S n.E=true:=by
 by_cases h1:n.K=1
 ·rw [Jjd h1] at h
  simp only [Bool.and_eq_true] at h;obtain⟨a,b⟩:=Jfk h.1.1;exact⟨by rw [List.eq_nil_of_length_eq_zero a];exact fun _ _ _ _ _ hx=>(Jba hx).elim,by omega,h.2⟩
 by_cases h2:n.K=2
 ·rw [Jhb h2] at h
  simp only [Bool.and_eq_true,beq_iff_eq] at h;exact⟨Jsi h.2.2,h.2.1,Jdo h.1.1⟩
 by_cases h3:n.K=3
 ·rw [Jhk h3] at h
  simp only [Bool.and_eq_true] at h;obtain⟨a,b⟩:=Jfk h.1.1;exact⟨by rw [List.eq_nil_of_length_eq_zero a];exact fun _ _ _ _ _ hx=>(Jba hx).elim,by omega,Jdo h.1.2⟩
 by_cases h4:n.K=4
 ·rw [Jkk h4] at h
  simp only [Bool.and_eq_true] at h;obtain⟨a,b⟩:=Jfk h.1.1;exact⟨by rw [List.eq_nil_of_length_eq_zero a];exact fun _ _ _ _ _ hx=>(Jba hx).elim,by omega,Jdo h.1.2⟩
 rw [Ji5 h1 h2 h3 h4] at h;cases h
theorem Jex {P:Program} {w:World} {ops:Array Oper} {rest:List Oper} {o:Oper} {a:Act} {Q:Exit→Act→World→Prop} (hgd:o.guard=none) (s x:Operand) (t:TypeId)
  (ho:o.op= .call {callee:= .builtin .append,args:=#[s,x],argTypes:=#[t,t]})
  (base:Nat) (e:TypeId) (i:TypeInfo) (z:Value) (size bytes:Nat) (ht:P.underlying t=some (.slice e)) (hi:P.info? e=some i) (hz:i.zero=some z)
  (hsize:i.size=size) (hby:i.bytes=bytes) (hzs:z.cells.size=size) (hsz:0<size)
  (v:Value) (n:Nat) (xs:List Value) (hs:a.eval s=v) (hown:w.ownsRow base e size v n xs)
  (A:Option Addr) (m c:Nat) (news:List Value) (hA:A=none→m=0∧c=0) (hx:a.eval x= .slice A m c) (hl:news.length=m*size) (hnews:Lies w A news) (h1:∀u∈news,u.oneCell'=true)
  (h63:n+m≤maxLen) (hbytes:(n+m)*bytes≤140737488355328) (hbase:base≤w.heap.size)
  (h:∀v' w',w'.ownsRow base e size v' (n+m) (xs++news)→w.grownBy w' v.ownBlock→wpList P ops Q rest (a.put o.dst v') w'):wpList P ops Q (o::rest) a w:=by
 rcases A with _ |ad
 ·obtain⟨rfl,rfl⟩:=hA rfl
  have hn:news=[]:=List.eq_nil_of_length_eq_zero (by rw [hl,Nat.zero_mul]);refine wpList_append_own_none hgd s x t ho base e i size ht hi v n xs hs hown hx (h v w ?_ ⟨rfl,rfl,rfl,Nat.le_refl _,fun _ _ _=>rfl⟩);rw [hn,List.append_nil,Nat.add_zero];exact hown
 ·refine wpList_append_own w hgd s x t ho base e i z size bytes ht hi hz hsize hby hzs hsz v n xs hs hown ad m c news hx hl (fun j u hj=>?_) h1 h63 hbytes hbase fun v' w' k1 k2 _=>h v' w' k1 k2
  obtain⟨b,off,e1,_,e3⟩:=hnews j u hj;injection e1 with e1;subst e1;rw [add_place];exact e3

end Go.Proofs.YtekekhgjobahaaaGreatDoor.tre
