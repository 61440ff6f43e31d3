/- Where a path leads, in plain words ('Leads'): of any trees, from above, it is one. No program's call, no condition. What the reference sees along names (here). Condition: the trees, the names lie in memory. How what the reference goes along lies in memory; that the box of what is handed back is none of what it refers to. A step of the reference along parts. Condition: what it is given lies in memory. What the reference answers of any path: where it leads. Condition: the trees lie in memory. -/
import Derived.Test.YtckjkndegjklnaaGreatDoorJXD
namespace Go.Proofs.YtckjkndegjklnaaGreatDoor.wlk
set_option maxRecDepth 100000
open Go.RowKit words ext name tre stk Go.Proofs.YtckjkndegjklnaaGreatDoor.seen

def D0 (R:List Nd):List Nd:=R.take (dirsN R)
def Along (D:List Nd):List ByteArray→List Nd→Prop
 |[],E=>E=D
 |n::ns,E=>∃Q,EntN n D Q∧Along (seenOf Q) ns E
theorem Jb0 {D E:List Nd}:Along D [] E↔E=D:=by unfold Along;exact Iff.rfl
theorem Ja0 {D E:List Nd} {n:ByteArray} {ns:List ByteArray}:Along D (n::ns) E↔∃Q,EntN n D Q∧Along (seenOf Q) ns E:=by
 constructor
 ·intro h;exact h
 ·intro h;exact h
theorem Along.snoc {n:ByteArray} {E Q:List Nd} (hQ:EntN n E Q):∀{ns:List ByteArray} {D:List Nd},Along D ns E→Along D (ns++[n]) (seenOf Q)
 |[],D,h=>by
  rw [Jb0] at h
  subst h
  exact⟨Q,hQ,rfl⟩
 |m::ns,D,h=>by
  obtain⟨Q1,h1,h2⟩:=Ja0.1 h
  exact⟨Q1,h1,h2.snoc hQ⟩
def Good (D:List Nd):Prop:=∀d∈D,allB d=true
theorem Jki:∀{L:List Nd} {x:Nd},allL L=true→x∈L→allB x=true
 |[],_,_,h=>by cases h
 |y::L,x,h,hx=>by
  rw [Jhb,Bool.and_eq_true] at h
  rcases List.mem_cons.1 hx with rfl |hx
  ·exact h.1
  ·exact Jki h.2 hx
theorem Good.one {D:List Nd} (h:Good D) {d:Nd} (hd:d∈D):oneB d=true:=Jft (h d hd)
theorem Good.asc {D:List Nd} (h:Good D):∀d∈D,Asc d.N∧d.N.length=d.I.length:=fun d hd=>by
 obtain⟨h1,h2,_⟩:=Jbc (h.one hd)
 exact⟨h1,h2⟩
theorem Jke {s:ByteArray}:∀{D Q:List Nd},EntN s D Q→∀q∈Q,∃d∈D,∃i:Nat,d.I[i]?=some q∧d.N[i]?=some s
 |[],Q,h,q,hq=>by
  have h':Q=[]:=h
  subst h'
  cases hq
 |c::D,Q,⟨o,Q1,hh,he,hr⟩,q,hq=>by
  subst he
  rcases List.mem_append.1 hq with hq |hq
  ·rcases hh with⟨i,y,a1,a2,rfl⟩ |⟨rfl,a1⟩
   ·have hq':q=y:=by simpa using hq
    subst hq'
    exact⟨c,List.mem_cons_self ..,i,a2,a1⟩
   ·simp at hq
  ·obtain⟨d,h1,h2⟩:=Jke hr q hq
   exact⟨d,List.mem_cons_of_mem _ h1,h2⟩
theorem Good.seen {s:ByteArray} {D Q:List Nd} (h:Good D) (hQ:EntN s D Q):Good (seenOf Q):=fun q hq=>by
 obtain⟨d,h1,i,h2,_⟩:=Jke hQ q (Je9 Q q hq)
 have h3:=h d h1
 rw [Jkz,Bool.and_eq_true] at h3
 exact Jki h3.1 (List.mem_of_getElem? h2)
theorem Good.root {R:List Nd} (h:∀t∈R,allB t=true):Good (D0 R):=fun d hd=>h d (List.mem_of_mem_take hd)
theorem Along.good:∀{ns:List ByteArray} {D E:List Nd},Along D ns E→Good D→Good E
 |[],D,E,h,hg=>by rw [Jb0] at h;rw [h];exact hg
 |n::ns,D,E,h,hg=>by
  obtain⟨Q,h1,h2⟩:=Ja0.1 h
  exact h2.good (hg.seen h1)
theorem Along.uniq:∀{ns:List ByteArray} {D E E':List Nd},Good D→Along D ns E→Along D ns E'→E=E'
 |[],D,E,E',_,h,h'=>by rw [Jb0] at h h';rw [h,h']
 |n::ns,D,E,E',hg,h,h'=>by
  obtain⟨Q,h1,h2⟩:=Ja0.1 h
  obtain⟨Q',h1',h2'⟩:=Ja0.1 h'
  obtain rfl:=EntN.uniq (fun d hd=>(hg.asc d hd).1) h1 h1'
  exact Along.uniq (hg.seen h1) h2 h2'
theorem Along.some:∀{ns:List ByteArray} {D:List Nd},Good D→∃E,Along D ns E
 |[],D,_=>⟨D,rfl⟩
 |n::ns,D,hg=>by
  obtain⟨Q,hQ⟩:=EntN.some (s:=n) (D:=D) fun d hd=>(hg.asc d hd).2
  obtain⟨E,hE⟩:=Along.some (ns:=ns) (hg.seen hQ)
  exact⟨E,Q,hQ,hE⟩
theorem Along.deep:∀{ns:List ByteArray} {D E:List Nd} {k:Nat},Along D ns E→(∀d∈D,depth d<k)→∀d∈E,depth d+ns.length<k
 |[],D,E,k,h,hk,d,hd=>by rw [Jb0] at h;rw [h] at hd;exact hk d hd
 |n::ns,D,E,k,h,hk,d,hd=>by
  obtain⟨Q,h1,h2⟩:=Ja0.1 h
  rcases k with _ |k
  ·rcases D with _ |⟨c,D⟩
   ·have h3:Q=[]:=h1
    subst h3
    have h4:∀{ns:List ByteArray} {E:List Nd},Along [] ns E→E=[]:=by
     intro ns
     induction ns with
     |nil=>intro E h;exact h
     |cons m ns ih=>
      intro E h
      obtain⟨Q,h1,h2⟩:=Ja0.1 h
      have h3:Q=[]:=h1
      subst h3
      exact ih h2
    have h5:=h4 h2
    subst h5
    cases hd
   ·have:=hk c (List.mem_cons_self ..)
    omega
  ·have:=h2.deep (Jjm h1 hk) d hd
   rw [List.length_cons]
   omega
theorem Along.len:∀{ns:List ByteArray} {D E:List Nd},Along D ns E→E.length≤D.length
 |[],D,E,h=>by rw [Jb0] at h;rw [h];exact Nat.le_refl _
 |n::ns,D,E,h=>by
  obtain⟨Q,h1,h2⟩:=Ja0.1 h
  have:=h2.len
  have:=Jfd Q
  have:=h1.len
  omega
theorem Jdm {d:Nd} (h:oneB d=true) (hk:d.K=3):d.T.size≤256∧∃qs:List ByteArray,parts d.T.data.toList=some (qs.map fun y=>y.data.toList):=by
 unfold oneB at h
 rw [hk] at h
 simp only [Int.reduceEq,if_false,if_true,Bool.and_eq_true] at h
 have hp:=h.2
 unfold pathB at hp
 simp only [Bool.and_eq_true,decide_eq_true_eq] at hp
 refine⟨hp.2,?_⟩
 rcases hq:parts d.T.data.toList with _ |ps
 ·rw [hq] at hp;cases hp.1
 ·refine⟨ps.map fun l=>⟨⟨l⟩⟩,?_⟩
  rw [List.map_map]
  congr 1
  exact (List.map_id' ps).symm
theorem Jbz:∀l:List UInt8,(cut l).length+((cut l).filter fun p=> !idle p).length≤l.length+1
 |[]=>by decide
 |b::l=>by
  have ih:=Jbz l
  unfold cut
  by_cases hb:b=47
  ·rw [if_pos hb,List.length_cons,List.filter_cons_of_neg (by decide),List.length_cons]
   omega
  ·rw [if_neg hb]
   rcases hc:cut l with _ |⟨p,r⟩
   ·exact absurd hc (Joi l)
   ·rw [hc] at ih
    simp only [List.length_cons] at ih ⊢
    have h1:(((b::p)::r).filter fun p=> !idle p).length≤(r.filter fun p=> !idle p).length+1:=by
     rcases hi:idle (b::p) with _ |_
     ·rw [List.filter_cons_of_pos (by rw [hi];rfl),List.length_cons];exact Nat.le_refl _
     ·rw [List.filter_cons_of_neg (by rw [hi];decide)];omega
    have h2:(r.filter fun p=> !idle p).length≤((p::r).filter fun p=> !idle p).length:=by
     rcases hi:idle p with _ |_
     ·rw [List.filter_cons_of_pos (by rw [hi];rfl),List.length_cons];omega
     ·rw [List.filter_cons_of_neg (by rw [hi];decide)];exact Nat.le_refl _
    omega
theorem Jdd {l:List UInt8} {ps:List (List UInt8)} (h:parts l=some ps):2*ps.length≤l.length+1∧l.length≤1024∧1≤l.length:=by
 unfold parts at h
 split at h
 ·cases h
 ·rename_i hn
  injection h with h
  subst h
  have h1:=Jbz l
  have h2:=List.length_filter_le (fun p=> !idle p) (cut l)
  refine⟨?_,?_,?_⟩
  ·rcases l with _ |⟨b,l⟩
   ·simp at hn
   ·omega
  ·omega
  ·omega

inductive AtO where
 |err (k:Int)
 |ok (ns:List ByteArray) (D:List Nd)
inductive Leads (R:List Nd) (f:Bool):List ByteArray→List ByteArray→Nat→AtO→Prop
 |done {ns h D}:Along (D0 R) ns D→Leads R f ns [] h (.ok ns D)
 |up {ns ps h o}:Leads R f (ns.take (ns.length - 1)) ps h o→Leads R f ns (dd::ps) h o
 |none {ns p ps h D Q}:p≠dd→Along (D0 R) ns D→EntN p D Q→seenOf Q=[]→Leads R f ns (p::ps) h (.err 2)
 |dir {ns p ps h D Q d S o}:p≠dd→Along (D0 R) ns D→EntN p D Q→seenOf Q=d::S→d.K=2→Leads R f (ns++[p]) ps h o→Leads R f ns (p::ps) h o
 |loop {ns p ps D Q d S}:p≠dd→Along (D0 R) ns D→EntN p D Q→seenOf Q=d::S→d.K=3→(f=true∨0<ps.length)→Leads R f ns (p::ps) 0 (.err 4)
 |hop {ns p ps h D Q d S qs o}:p≠dd→Along (D0 R) ns D→EntN p D Q→seenOf Q=d::S→d.K=3→(f=true∨0<ps.length)→parts d.T.data.toList=some (qs.map fun y=>y.data.toList)→
   Leads R f (if (d.T.data.toList.head?==some 47)=true then [] else ns) (qs++ps) h o→Leads R f ns (p::ps) (h+1) o
 |not {ns p ps h D Q d S}:p≠dd→Along (D0 R) ns D→EntN p D Q→seenOf Q=d::S→d.K≠2→¬(d.K=3∧(f=true∨0<ps.length))→0<ps.length→Leads R f ns (p::ps) h (.err 3)
 |leaf {ns p h D Q d S}:p≠dd→Along (D0 R) ns D→EntN p D Q→seenOf Q=d::S→d.K≠2→¬(d.K=3∧(f=true∨0<([]:List ByteArray).length))→Leads R f ns [p] h (.ok (ns++[p]) (d::S))
theorem Jd0 {a b:List ByteArray} (h:a.map (fun y=>y.data.toList)=b.map fun y=>y.data.toList):a=b:=List.map_inj_right (fun _ _ hxy=>ByteArray.ext (Array.ext' hxy)) |>.1 h
theorem Leads.uniq {R:List Nd} {f:Bool} (hg:∀t∈R,allB t=true) {ns ps:List ByteArray} {h:Nat} {o o':AtO} (h1:Leads R f ns ps h o) (h2:Leads R f ns ps h o'):o=o':=by
 have gr:=Good.root hg
 have same:∀{ns:List ByteArray} {p:ByteArray} {D D' Q Q':List Nd},Along (D0 R) ns D→Along (D0 R) ns D'→EntN p D Q→EntN p D' Q'→Q=Q':=fun a a' e e'=>by
  obtain rfl:=a.uniq gr a'
  exact EntN.uniq (fun d hd=>((a.good gr).asc d hd).1) e e'
 induction h1 with
 |done a=>
  cases h2 with
  |done a'=>rw [a.uniq gr a']
 |up _ ih=>
  cases h2 with
  |up a'=>exact ih a'
  |none n _ _ _=>exact absurd rfl n
  |dir n _ _ _ _ _=>exact absurd rfl n
  |loop n _ _ _ _ _=>exact absurd rfl n
  |hop n _ _ _ _ _ _ _=>exact absurd rfl n
  |not n _ _ _ _ _ _=>exact absurd rfl n
  |leaf n _ _ _ _ _=>exact absurd rfl n
 |none n a e s=>
  cases h2 with
  |up _=>exact absurd rfl n
  |none _ _ _ _=>rfl
  |dir _ a' e' s' _ _=>obtain rfl:=same a a' e e';rw [s] at s';cases s'
  |loop _ a' e' s' _ _=>obtain rfl:=same a a' e e';rw [s] at s';cases s'
  |hop _ a' e' s' _ _ _ _=>obtain rfl:=same a a' e e';rw [s] at s';cases s'
  |not _ a' e' s' _ _ _=>obtain rfl:=same a a' e e';rw [s] at s';cases s'
  |leaf _ a' e' s' _ _=>obtain rfl:=same a a' e e';rw [s] at s';cases s'
 |dir n a e s k _ ih=>
  cases h2 with
  |up _=>exact absurd rfl n
  |none _ a' e' s'=>obtain rfl:=same a a' e e';rw [s] at s';cases s'
  |dir _ a' e' s' _ l'=>exact ih l'
  |loop _ a' e' s' k' _=>obtain rfl:=same a a' e e';rw [s] at s';injection s' with s' _;rw [s',k'] at k;exact absurd k (by decide)
  |hop _ a' e' s' k' _ _ _=>obtain rfl:=same a a' e e';rw [s] at s';injection s' with s' _;rw [s',k'] at k;exact absurd k (by decide)
  |not _ a' e' s' k' _ _=>obtain rfl:=same a a' e e';rw [s] at s';injection s' with s' _;rw [s'] at k;exact absurd k k'
  |leaf _ a' e' s' k' _=>obtain rfl:=same a a' e e';rw [s] at s';injection s' with s' _;rw [s'] at k;exact absurd k k'
 |loop n a e s k c=>
  cases h2 with
  |up _=>exact absurd rfl n
  |none _ a' e' s'=>obtain rfl:=same a a' e e';rw [s] at s';cases s'
  |dir _ a' e' s' k' _=>obtain rfl:=same a a' e e';rw [s] at s';injection s' with s' _;rw [s',k'] at k;exact absurd k (by decide)
  |loop _ _ _ _ _ _=>rfl
  |not _ a' e' s' _ k' _=>obtain rfl:=same a a' e e';rw [s] at s';injection s' with s' _;rw [s'] at k;exact absurd ⟨k,c⟩ k'
  |leaf _ a' e' s' _ k'=>obtain rfl:=same a a' e e';rw [s] at s';injection s' with s' _;rw [s'] at k;exact absurd ⟨k,c⟩ k'
 |hop n a e s k c p _ ih=>
  cases h2 with
  |up _=>exact absurd rfl n
  |none _ a' e' s'=>obtain rfl:=same a a' e e';rw [s] at s';cases s'
  |dir _ a' e' s' k' _=>obtain rfl:=same a a' e e';rw [s] at s';injection s' with s' _;rw [s',k'] at k;exact absurd k (by decide)
  |hop _ a' e' s' _ _ p' l'=>
   obtain rfl:=same a a' e e'
   rw [s] at s'
   injection s' with s' _
   subst s'
   rw [p] at p'
   injection p' with p'
   obtain rfl:=Jd0 p'
   exact ih l'
  |not _ a' e' s' _ k' _=>obtain rfl:=same a a' e e';rw [s] at s';injection s' with s' _;rw [s'] at k;exact absurd ⟨k,c⟩ k'
  |leaf _ a' e' s' _ k'=>obtain rfl:=same a a' e e';rw [s] at s';injection s' with s' _;rw [s'] at k;exact absurd ⟨k,c⟩ k'
 |not n a e s k c l=>
  cases h2 with
  |up _=>exact absurd rfl n
  |none _ a' e' s'=>obtain rfl:=same a a' e e';rw [s] at s';cases s'
  |dir _ a' e' s' k' _=>obtain rfl:=same a a' e e';rw [s] at s';injection s' with s' _;rw [s'] at k;exact absurd k' k
  |loop _ a' e' s' k' c'=>obtain rfl:=same a a' e e';rw [s] at s';injection s' with s' _;rw [s'] at c;exact absurd ⟨k',c'⟩ c
  |hop _ a' e' s' k' c' _ _=>obtain rfl:=same a a' e e';rw [s] at s';injection s' with s' _;rw [s'] at c;exact absurd ⟨k',c'⟩ c
  |not _ _ _ _ _ _ _=>rfl
  |leaf _ _ _ _ _ _=>exact absurd l (by simp)
 |leaf n a e s k c=>
  cases h2 with
  |up _=>exact absurd rfl n
  |none _ a' e' s'=>obtain rfl:=same a a' e e';rw [s] at s';cases s'
  |dir _ a' e' s' k' _=>obtain rfl:=same a a' e e';rw [s] at s';injection s' with s' _;rw [s'] at k;exact absurd k' k
  |loop _ a' e' s' k' c'=>obtain rfl:=same a a' e e';rw [s] at s';injection s' with s' _;rw [s'] at c;exact absurd ⟨k',c'⟩ c
  |hop _ a' e' s' k' c' _ _=>obtain rfl:=same a a' e e';rw [s] at s';injection s' with s' _;rw [s'] at c;exact absurd ⟨k',c'⟩ c
  |not _ _ _ _ _ _ l=>exact absurd l (by simp)
  |leaf _ a' e' s' _ _=>obtain rfl:=same a a' e e';rw [s] at s';rw [s']
theorem Leads.ups {R:List Nd} {f:Bool} {h:Nat} {o:AtO}:∀{ps ns:List ByteArray},Leads R f (ns.take (upK (ns.length+1) ps - 1)) (restP ps) h o→Leads R f ns ps h o
 |[],ns,l=>by
  unfold upK restP at l
  rw [Nat.add_sub_cancel,List.take_length] at l
  exact l
 |p::ps,ns,l=>by
  by_cases hp:p=dd
  ·subst hp
   unfold upK restP at l
   rw [if_pos rfl,if_pos rfl] at l
   refine .up (Leads.ups (ps:=ps) ?_)
   have hl:(ns.take (ns.length - 1)).length+1=max (ns.length+1 - 1) 1:=by rw [List.length_take];omega
   rw [hl,List.take_take]
   have hle:upK (max (ns.length+1 - 1) 1) ps - 1≤ns.length - 1:=by
    have:=Jl0 ps (max (ns.length+1 - 1) 1) (max (ns.length+1 - 1) 1) (Nat.le_refl _) (by omega)
    omega
   rw [Nat.min_eq_left hle]
   exact l
  ·unfold upK restP at l
   rw [if_neg hp,if_neg hp,Nat.add_sub_cancel,List.take_length] at l
   exact l
theorem Jff:∀{ps:List ByteArray} {p:ByteArray} {rs:List ByteArray},restP ps=p::rs→p≠dd
 |[],_,_,h=>by cases h
 |q::ps,p,rs,h=>by
  unfold restP at h
  split at h
  ·exact Jff h
  ·rename_i hq
   injection h with h1 _
   rw [←h1]
   exact hq

theorem Jlq (R:List Nd):(D0 R).length≤R.length:=by
 unfold D0
 rw [List.length_take]
 exact Nat.min_le_right ..

section
variable {w w':World} {g:Nat} {A1 A2:Option Addr} {n1 c1 n2 c2:Nat} {k:Int}
end
structure Cut (w:World) (Ap:Option Addr) (cp:Nat) (p:ByteArray) (ps:List ByteArray) (b off:Nat) (A2:Option Addr):Prop where
 eq:Ap=some ⟨b,off,none⟩
 lt:b<w.heap.size
 c0:w.cell? ⟨b,off,none⟩=some (.string p)
 cut:∀wx:World,(Instr.slice 42 (.slice (some ⟨b,off,none⟩) (ps.length+1) cp) (some (.int .i64 1)) none none).run Tryz.prog wx= .ok (.slice A2 ps.length (cp - 1)) wx
 row:heap.Row w w.heap.size A2 ps
 len:ps.length≤cp - 1
 nil:A2=none→ps.length=0∧cp - 1=0
theorem Jkv {w:World} {Ap:Option Addr} {cp:Nat} {p:ByteArray} {ps:List ByteArray} (h:heap.Row w w.heap.size Ap (p::ps)) (hc:(p::ps).length≤cp):∃b off A2,Cut w Ap cp p ps b off A2:=by
 obtain⟨b,off,rfl,h2,h3⟩:=h 0 p rfl
 rw [Nat.add_zero] at h3
 rw [List.length_cons] at hc
 refine⟨b,off,if cp=1 then (some (⟨b,off,none⟩:Addr)) else (some (⟨b,off,none⟩:Addr)).map (·.add 1),rfl,h2,h3,fun wx=>?_,Jgx h hc,by omega,fun e=>?_⟩
 ·have h:=Jip (some ⟨b,off,none⟩) (ps.length+1) cp (by omega) wx
  rw [Nat.add_sub_cancel] at h
  exact h
 ·split at e<;>cases e


theorem Jgw {R:List Nd} {f:Bool} (hg:∀t∈R,allB t=true) {h:Nat} {ps:List ByteArray} (hh:∀h',h=h'+1→∀ps ns,∃o,Leads R f ns ps h' o) (hp:∀ns,∃o,Leads R f ns ps h o) (p:ByteArray) (ns:List ByteArray):∃o,Leads R f ns (p::ps) h o:=by
 by_cases hd:p=dd
 ·subst hd
  obtain⟨o,ho⟩:=hp (ns.take (ns.length - 1))
  exact⟨o,.up ho⟩
 obtain⟨D,hD⟩:=Along.some (ns:=ns) (Good.root hg)
 have hgd:=hD.good (Good.root hg)
 obtain⟨Q,hQ⟩:=EntN.some (s:=p) (D:=D) fun d hd=>(hgd.asc d hd).2
 rcases hS:seenOf Q with _ |⟨d,S⟩
 ·exact⟨_,.none hd hD hQ hS⟩
 by_cases h2:d.K=2
 ·obtain⟨o,ho⟩:=hp (ns++[p])
  exact⟨o,.dir hd hD hQ hS h2 ho⟩
 by_cases h3:d.K=3∧(f=true∨0<ps.length)
 ·rcases h with _ |h
  ·exact⟨_,.loop hd hD hQ hS h3.1 h3.2⟩
  ·obtain⟨_,qs,hq⟩:=Jdm ((hgd.seen hQ).one (d:=d) (by rw [hS];exact List.mem_cons_self ..)) h3.1
   obtain⟨o,ho⟩:=hh h rfl (qs++ps) (if (d.T.data.toList.head?==Option.some 47)=true then [] else ns)
   exact⟨o,.hop hd hD hQ hS h3.1 h3.2 hq ho⟩
 rcases ps with _ |⟨q,ps⟩
 ·exact⟨_,.leaf hd hD hQ hS h2 h3⟩
 ·exact⟨_,.not hd hD hQ hS h2 h3 (by simp)⟩
theorem Jfj {R:List Nd} {f:Bool} (hg:∀t∈R,allB t=true):∀(h:Nat) (ps ns:List ByteArray),∃o,Leads R f ns ps h o:=by
 intro h
 induction h with
 |zero=>
  intro ps
  induction ps with
  |nil=>intro ns;obtain⟨D,hD⟩:=Along.some (ns:=ns) (Good.root hg);exact⟨_,.done hD⟩
  |cons p ps ih=>intro ns;exact Jgw hg (fun h' e=>by cases e) ih p ns
 |succ h ihh=>
  intro ps
  induction ps with
  |nil=>intro ns;obtain⟨D,hD⟩:=Along.some (ns:=ns) (Good.root hg);exact⟨_,.done hD⟩
  |cons p ps ih=>intro ns;exact Jgw hg (fun h' e=>by injection e with e;subst e;exact ihh) ih p ns
def Goes (R:List Nd) (f:Bool) (s:ByteArray) (o:AtO):Prop:=
 (parts s.data.toList=none∧o= .err 1)∨∃ps:List ByteArray,parts s.data.toList=some (ps.map fun y=>y.data.toList)∧Leads R f [] ps 40 o
theorem Goes.some {R:List Nd} {f:Bool} (hg:∀t∈R,allB t=true) (s:ByteArray):∃o,Goes R f s o:=by
 rcases hp:parts s.data.toList with _ |ls
 ·exact⟨_,.inl ⟨hp,rfl⟩⟩
 ·have hq:ls=(ls.map fun l=>(⟨⟨l⟩⟩:ByteArray)).map fun y=>y.data.toList:=by
   rw [List.map_map]
   exact (List.map_id' ls).symm
  obtain⟨o,ho⟩:=Jfj (f:=f) hg 40 (ls.map fun l=>(⟨⟨l⟩⟩:ByteArray)) []
  exact⟨o,.inr ⟨_,by rw [hp,←hq],ho⟩⟩
theorem Goes.uniq {R:List Nd} {f:Bool} (hg:∀t∈R,allB t=true) {s:ByteArray} {o o':AtO} (h:Goes R f s o) (h':Goes R f s o'):o=o':=by
 rcases h with⟨h1,h2⟩ |⟨ps,h1,h2⟩
 ·rcases h' with⟨_,h2'⟩ |⟨ps',h1',_⟩
  ·rw [h2,h2']
  ·rw [h1] at h1';cases h1'
 ·rcases h' with⟨h1',_⟩ |⟨ps',h1',h2'⟩
  ·rw [h1] at h1';cases h1'
  ·rw [h1] at h1'
   injection h1' with e
   obtain rfl:=Jd0 e
   exact h2.uniq hg h2'
end Go.Proofs.YtckjkndegjklnaaGreatDoor.wlk
