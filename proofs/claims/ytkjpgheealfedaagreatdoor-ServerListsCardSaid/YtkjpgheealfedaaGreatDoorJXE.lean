import Derived.Test.YtkjpgheealfedaaGreatDoorJXD
set_option maxHeartbeats 25600000
set_option maxRecDepth 100000
open Go.Lib (hid)
open Go.Proofs.Tryz hiding parts
namespace Go.Proofs.YtkjpgheealfedaaGreatDoor.wlk
open Go.RowKit words ext name tre stk Go.Proofs.YtkjpgheealfedaaGreatDoor.seen

def D0 (R:List Nd):List Nd:=R.take (dirsN R)
def Along (D:List Nd):List ByteArray→List Nd→Prop
 |[],E=>E=D
 |n::ns,E=>∃Q,EntN n D Q∧Along (seenOf Q) ns E
theorem Jbx {D E:List Nd}:Along D [] E↔E=D:=by unfold Along;exact Iff.rfl
theorem Jat {D E:List Nd} {n:ByteArray} {ns:List ByteArray}:Along D (n::ns) E↔∃Q,EntN n D Q∧Along (seenOf Q) ns E:=by
 constructor
 ·intro h;exact h
 ·intro h;exact h
theorem Along.snoc {n:ByteArray} {E Q:List Nd} (hQ:EntN n E Q):∀{ns:List ByteArray} {D:List Nd},Along D ns E→Along D (ns++[n]) (seenOf Q)
 |[],D,h=>by
  rw [Jbx] at h;subst h;exact⟨Q,hQ,rfl⟩
 |m::ns,D,h=>by
  obtain⟨Q1,h1,h2⟩:=Jat.1 h;exact⟨Q1,h1,h2.snoc hQ⟩
theorem Along.pre {E:List Nd} {n:ByteArray}:∀{ns:List ByteArray} {D:List Nd},Along D (ns++[n]) E→∃F Q,Along D ns F∧EntN n F Q∧E=seenOf Q
 |[],D,h=>by
  obtain⟨Q,h1,h2⟩:=Jat.1 h;exact⟨D,Q,rfl,h1,h2⟩
 |m::ns,D,h=>by
  obtain⟨Q1,h1,h2⟩:=Jat.1 h;obtain⟨F,Q,h3,h4,h5⟩:=h2.pre;exact⟨F,Q,⟨Q1,h1,h3⟩,h4,h5⟩
def Good (D:List Nd):Prop:=∀d∈D,allB d=true
theorem Jn3:∀{L:List Nd} {x:Nd},allL L=true→x∈L→allB x=true
 |[],_,_,h=>by cases h
 |y::L,x,h,hx=>by
  rw [Jb2,Bool.and_eq_true] at h;rcases List.mem_cons.1 hx with rfl |hx
  ·exact h.1
  ·exact Jn3 h.2 hx
theorem Good.one {D:List Nd} (h:Good D) {d:Nd} (hd:d∈D):oneB d=true:=Jhk (h d hd)
theorem Good.asc {D:List Nd} (h:Good D):∀d∈D,Asc d.N∧d.N.length=d.I.length:=fun d hd=>by
 obtain⟨h1,h2,_⟩:=Jbd (h.one hd);exact⟨h1,h2⟩
theorem Jj5 {s:ByteArray}:∀{D Q:List Nd},EntN s D Q→∀q∈Q,∃d∈D,∃i:Nat,d.I[i]?=some q∧d.N[i]?=some s
 |[],Q,h,q,hq=>by
  have h':Q=[]:=h;subst h';cases hq
 |c::D,Q,⟨o,Q1,hh,he,hr⟩,q,hq=>by
  subst he;rcases List.mem_append.1 hq with hq |hq
  ·rcases hh with⟨i,y,a1,a2,rfl⟩ |⟨rfl,a1⟩
   ·have hq':q=y:=by simpa using hq
    subst hq';exact⟨c,List.mem_cons_self ..,i,a2,a1⟩
   ·simp at hq
  ·obtain⟨d,h1,h2⟩:=Jj5 hr q hq
   exact⟨d,List.mem_cons_of_mem _ h1,h2⟩
theorem Good.seen {s:ByteArray} {D Q:List Nd} (h:Good D) (hQ:EntN s D Q):Good (seenOf Q):=fun q hq=>by
 obtain⟨d,h1,i,h2,_⟩:=Jj5 hQ q (Jen Q q hq);have h3:=h d h1;rw [Jec,Bool.and_eq_true] at h3;exact Jn3 h3.1 (List.mem_of_getElem? h2)
theorem Good.root {R:List Nd} (h:∀t∈R,allB t=true):Good (D0 R):=fun d hd=>h d (List.mem_of_mem_take hd)
theorem Along.good:∀{ns:List ByteArray} {D E:List Nd},Along D ns E→Good D→Good E
 |[],D,E,h,hg=>by rw [Jbx] at h;rw [h];exact hg
 |n::ns,D,E,h,hg=>by
  obtain⟨Q,h1,h2⟩:=Jat.1 h;exact h2.good (hg.seen h1)
theorem Along.uniq:∀{ns:List ByteArray} {D E E':List Nd},Good D→Along D ns E→Along D ns E'→E=E'
 |[],D,E,E',_,h,h'=>by rw [Jbx] at h h';rw [h,h']
 |n::ns,D,E,E',hg,h,h'=>by
  obtain⟨Q,h1,h2⟩:=Jat.1 h;obtain⟨Q',h1',h2'⟩:=Jat.1 h';obtain rfl:=EntN.uniq (fun d hd=>(hg.asc d hd).1) h1 h1';exact Along.uniq (hg.seen h1) h2 h2'
theorem Along.some:∀{ns:List ByteArray} {D:List Nd},Good D→∃E,Along D ns E
 |[],D,_=>⟨D,rfl⟩
 |n::ns,D,hg=>by
  obtain⟨Q,hQ⟩:=EntN.some (s:=n) (D:=D) fun d hd=>(hg.asc d hd).2;obtain⟨E,hE⟩:=Along.some (ns:=ns) (hg.seen hQ);exact⟨E,Q,hQ,hE⟩
theorem Along.deep:∀{ns:List ByteArray} {D E:List Nd} {k:Nat},Along D ns E→(∀d∈D,depth d<k)→∀d∈E,depth d+ns.length<k
 |[],D,E,k,h,hk,d,hd=>by rw [Jbx] at h;rw [h] at hd;exact hk d hd
 |n::ns,D,E,k,h,hk,d,hd=>by
  obtain⟨Q,h1,h2⟩:=Jat.1 h;rcases k with _ |k
  ·rcases D with _ |⟨c,D⟩
   ·have h3:Q=[]:=h1
    subst h3;have h4:∀{ns:List ByteArray} {E:List Nd},Along [] ns E→E=[]:=by
     intro ns
     induction ns with
     |nil=>intro E h;exact h
     |cons m ns ih=>
      intro E h;obtain⟨Q,h1,h2⟩:=Jat.1 h;have h3:Q=[]:=h1;subst h3;exact ih h2
    have h5:=h4 h2;subst h5;cases hd
   ·have:=hk c (List.mem_cons_self ..)
    omega
  ·have:=h2.deep (Jme h1 hk) d hd
   rw [List.length_cons];omega
theorem Along.len:∀{ns:List ByteArray} {D E:List Nd},Along D ns E→E.length≤D.length
 |[],D,E,h=>by rw [Jbx] at h;rw [h];exact Nat.le_refl _
 |n::ns,D,E,h=>by
  obtain⟨Q,h1,h2⟩:=Jat.1 h;have:=h2.len;have:=Jel Q;have:=h1.len;omega
theorem Jcv {d:Nd} (h:oneB d=true) (hk:d.K=3):d.T.size≤256∧∃qs:List ByteArray,parts d.T.data.toList=some (qs.map fun y=>y.data.toList):=by
 unfold oneB at h;rw [hk] at h;simp only [Int.reduceEq,if_false,if_true,Bool.and_eq_true] at h;have hp:=h.2;unfold pathB at hp;simp only [Bool.and_eq_true,decide_eq_true_eq] at hp;refine⟨hp.2,?_⟩;rcases hq:parts d.T.data.toList with _ |ps
 ·rw [hq] at hp;cases hp.1
 ·refine⟨ps.map fun l=>⟨⟨l⟩⟩,?_⟩
  rw [List.map_map];congr 1;exact (List.map_id' ps).symm
theorem Jcm:∀l:List UInt8,(cut l).length+((cut l).filter fun p=> !idle p).length≤l.length+1
 |[]=>by decide
 |b::l=>by
  have ih:=Jcm l;unfold cut;by_cases hb:b=47
  ·rw [if_pos hb,List.length_cons,List.filter_cons_of_neg (by decide),List.length_cons]
   omega
  ·rw [if_neg hb]
   rcases hc:cut l with _ |⟨p,r⟩
   ·exact absurd hc (Jq7 l)
   ·rw [hc] at ih
    simp only [List.length_cons] at ih ⊢;have h1:(((b::p)::r).filter fun p=> !idle p).length≤(r.filter fun p=> !idle p).length+1:=by
     rcases hi:idle (b::p) with _ |_
     ·rw [List.filter_cons_of_pos (by rw [hi];rfl),List.length_cons];exact Nat.le_refl _
     ·rw [List.filter_cons_of_neg (by rw [hi];decide)];omega
    have h2:(r.filter fun p=> !idle p).length≤((p::r).filter fun p=> !idle p).length:=by
     rcases hi:idle p with _ |_
     ·rw [List.filter_cons_of_pos (by rw [hi];rfl),List.length_cons];omega
     ·rw [List.filter_cons_of_neg (by rw [hi];decide)];exact Nat.le_refl _
    omega
theorem Jb4 {l:List UInt8} {ps:List (List UInt8)} (h:parts l=some ps):2*ps.length≤l.length+1∧l.length≤1024∧1≤l.length:=by
 unfold parts at h;split at h
 ·cases h
 ·rename_i hn
  injection h with h;subst h;have h1:=Jcm l;have h2:=List.length_filter_le (fun p=> !idle p) (cut l);refine⟨?_,?_,?_⟩
  ·rcases l with _ |⟨b,l⟩
   ·simp at hn
   ·omega
  ·omega
  ·omega

inductive AtO where
 |err (k:Int)
 |ok (ns:List ByteArray) (D:List Nd)
inductive Leads (R:List Nd) (f:Bool):List ByteArray→List ByteArray→Nat→AtO→Prop
 |done {ns h D}:Along (D0 R) ns D→Leads R f ns [] h (.ok ns D)
 |up {ns ps h o}:Leads R f (ns.take (ns.length - 1)) ps h o→Leads R f ns (dd::ps) h o
 |none {ns p ps h D Q}:p≠dd→Along (D0 R) ns D→EntN p D Q→seenOf Q=[]→Leads R f ns (p::ps) h (.err 2)
 |dir {ns p ps h D Q d S o}:p≠dd→Along (D0 R) ns D→EntN p D Q→seenOf Q=d::S→d.K=2→Leads R f (ns++[p]) ps h o→Leads R f ns (p::ps) h o
 |loop {ns p ps D Q d S}:p≠dd→Along (D0 R) ns D→EntN p D Q→seenOf Q=d::S→d.K=3→(f=true∨0<ps.length)→Leads R f ns (p::ps) 0 (.err 4)
 |hop {ns p ps h D Q d S qs o}:p≠dd→Along (D0 R) ns D→EntN p D Q→seenOf Q=d::S→d.K=3→(f=true∨0<ps.length)→parts d.T.data.toList=some (qs.map fun y=>y.data.toList)→
   Leads R f (if (d.T.data.toList.head?==some 47)=true then [] else ns) (qs++ps) h o→Leads R f ns (p::ps) (h+1) o
 |not {ns p ps h D Q d S}:p≠dd→Along (D0 R) ns D→EntN p D Q→seenOf Q=d::S→d.K≠2→¬(d.K=3∧(f=true∨0<ps.length))→0<ps.length→Leads R f ns (p::ps) h (.err 3)
 |leaf {ns p h D Q d S}:p≠dd→Along (D0 R) ns D→EntN p D Q→seenOf Q=d::S→d.K≠2→¬(d.K=3∧(f=true∨0<([]:List ByteArray).length))→Leads R f ns [p] h (.ok (ns++[p]) (d::S))
theorem Jc0 {a b:List ByteArray} (h:a.map (fun y=>y.data.toList)=b.map fun y=>y.data.toList):a=b:=List.map_inj_right (fun _ _ hxy=>ByteArray.ext (Array.ext' hxy)) |>.1 h
theorem Leads.uniq {R:List Nd} {f:Bool} (hg:∀t∈R,allB t=true) {ns ps:List ByteArray} {h:Nat} {o o':AtO} (h1:Leads R f ns ps h o) (h2:Leads R f ns ps h o'):o=o':=by
 have gr:=Good.root hg;have same:∀{ns:List ByteArray} {p:ByteArray} {D D' Q Q':List Nd},Along (D0 R) ns D→Along (D0 R) ns D'→EntN p D Q→EntN p D' Q'→Q=Q':=fun a a' e e'=>by
  obtain rfl:=a.uniq gr a';exact EntN.uniq (fun d hd=>((a.good gr).asc d hd).1) e e'
 induction h1 with
 |done a=>
  cases h2 with
  |done a'=>rw [a.uniq gr a']
 |up _ ih=>
  cases h2 with
  |up a'=>exact ih a'
  |none n _ _ _=>exact absurd rfl n
  |dir n _ _ _ _ _=>exact absurd rfl n
  |loop n _ _ _ _ _=>exact absurd rfl n
  |hop n _ _ _ _ _ _ _=>exact absurd rfl n
  |not n _ _ _ _ _ _=>exact absurd rfl n
  |leaf n _ _ _ _ _=>exact absurd rfl n
 |none n a e s=>
  cases h2 with
  |up _=>exact absurd rfl n
  |none _ _ _ _=>rfl
  |dir _ a' e' s' _ _=>obtain rfl:=same a a' e e';rw [s] at s';cases s'
  |loop _ a' e' s' _ _=>obtain rfl:=same a a' e e';rw [s] at s';cases s'
  |hop _ a' e' s' _ _ _ _=>obtain rfl:=same a a' e e';rw [s] at s';cases s'
  |not _ a' e' s' _ _ _=>obtain rfl:=same a a' e e';rw [s] at s';cases s'
  |leaf _ a' e' s' _ _=>obtain rfl:=same a a' e e';rw [s] at s';cases s'
 |dir n a e s k _ ih=>
  cases h2 with
  |up _=>exact absurd rfl n
  |none _ a' e' s'=>obtain rfl:=same a a' e e';rw [s] at s';cases s'
  |dir _ a' e' s' _ l'=>exact ih l'
  |loop _ a' e' s' k' _=>obtain rfl:=same a a' e e';rw [s] at s';injection s' with s' _;rw [s',k'] at k;exact absurd k (by decide)
  |hop _ a' e' s' k' _ _ _=>obtain rfl:=same a a' e e';rw [s] at s';injection s' with s' _;rw [s',k'] at k;exact absurd k (by decide)
  |not _ a' e' s' k' _ _=>obtain rfl:=same a a' e e';rw [s] at s';injection s' with s' _;rw [s'] at k;exact absurd k k'
  |leaf _ a' e' s' k' _=>obtain rfl:=same a a' e e';rw [s] at s';injection s' with s' _;rw [s'] at k;exact absurd k k'
 |loop n a e s k c=>
  cases h2 with
  |up _=>exact absurd rfl n
  |none _ a' e' s'=>obtain rfl:=same a a' e e';rw [s] at s';cases s'
  |dir _ a' e' s' k' _=>obtain rfl:=same a a' e e';rw [s] at s';injection s' with s' _;rw [s',k'] at k;exact absurd k (by decide)
  |loop _ _ _ _ _ _=>rfl
  |not _ a' e' s' _ k' _=>obtain rfl:=same a a' e e';rw [s] at s';injection s' with s' _;rw [s'] at k;exact absurd ⟨k,c⟩ k'
  |leaf _ a' e' s' _ k'=>obtain rfl:=same a a' e e';rw [s] at s';injection s' with s' _;rw [s'] at k;exact absurd ⟨k,c⟩ k'
 |hop n a e s k c p _ ih=>
  cases h2 with
  |up _=>exact absurd rfl n
  |none _ a' e' s'=>obtain rfl:=same a a' e e';rw [s] at s';cases s'
  |dir _ a' e' s' k' _=>obtain rfl:=same a a' e e';rw [s] at s';injection s' with s' _;rw [s',k'] at k;exact absurd k (by decide)
  |hop _ a' e' s' _ _ p' l'=>
   obtain rfl:=same a a' e e';rw [s] at s';injection s' with s' _;subst s';rw [p] at p';injection p' with p';obtain rfl:=Jc0 p';exact ih l'
  |not _ a' e' s' _ k' _=>obtain rfl:=same a a' e e';rw [s] at s';injection s' with s' _;rw [s'] at k;exact absurd ⟨k,c⟩ k'
  |leaf _ a' e' s' _ k'=>obtain rfl:=same a a' e e';rw [s] at s';injection s' with s' _;rw [s'] at k;exact absurd ⟨k,c⟩ k'
 |not n a e s k c l=>
  cases h2 with
  |up _=>exact absurd rfl n
  |none _ a' e' s'=>obtain rfl:=same a a' e e';rw [s] at s';cases s'
  |dir _ a' e' s' k' _=>obtain rfl:=same a a' e e';rw [s] at s';injection s' with s' _;rw [s'] at k;exact absurd k' k
  |loop _ a' e' s' k' c'=>obtain rfl:=same a a' e e';rw [s] at s';injection s' with s' _;rw [s'] at c;exact absurd ⟨k',c'⟩ c
  |hop _ a' e' s' k' c' _ _=>obtain rfl:=same a a' e e';rw [s] at s';injection s' with s' _;rw [s'] at c;exact absurd ⟨k',c'⟩ c
  |not _ _ _ _ _ _ _=>rfl
  |leaf _ _ _ _ _ _=>exact absurd l (by simp)
 |leaf n a e s k c=>
  cases h2 with
  |up _=>exact absurd rfl n
  |none _ a' e' s'=>obtain rfl:=same a a' e e';rw [s] at s';cases s'
  |dir _ a' e' s' k' _=>obtain rfl:=same a a' e e';rw [s] at s';injection s' with s' _;rw [s'] at k;exact absurd k' k
  |loop _ a' e' s' k' c'=>obtain rfl:=same a a' e e';rw [s] at s';injection s' with s' _;rw [s'] at c;exact absurd ⟨k',c'⟩ c
  |hop _ a' e' s' k' c' _ _=>obtain rfl:=same a a' e e';rw [s] at s';injection s' with s' _;rw [s'] at c;exact absurd ⟨k',c'⟩ c
  |not _ _ _ _ _ _ l=>exact absurd l (by simp)
  |leaf _ a' e' s' _ _=>obtain rfl:=same a a' e e';rw [s] at s';rw [s']
theorem Leads.ups {R:List Nd} {f:Bool} {h:Nat} {o:AtO}:∀{ps ns:List ByteArray},Leads R f (ns.take (upK (ns.length+1) ps - 1)) (restP ps) h o→Leads R f ns ps h o
 |[],ns,l=>by
  unfold upK restP at l;rw [Nat.add_sub_cancel,List.take_length] at l;exact l
 |p::ps,ns,l=>by
  by_cases hp:p=dd
  ·subst hp
   unfold upK restP at l;rw [if_pos rfl,if_pos rfl] at l;refine .up (Leads.ups (ps:=ps) ?_);have hl:(ns.take (ns.length - 1)).length+1=max (ns.length+1 - 1) 1:=by rw [List.length_take];omega
   rw [hl,List.take_take];have hle:upK (max (ns.length+1 - 1) 1) ps - 1≤ns.length - 1:=by
    have:=Jos ps (max (ns.length+1 - 1) 1) (max (ns.length+1 - 1) 1) (Nat.le_refl _) (by omega);omega
   rw [Nat.min_eq_left hle];exact l
  ·unfold upK restP at l
   rw [if_neg hp,if_neg hp,Nat.add_sub_cancel,List.take_length] at l;exact l
theorem Jgl:∀{ps:List ByteArray} {p:ByteArray} {rs:List ByteArray},restP ps=p::rs→p≠dd
 |[],_,_,h=>by cases h
 |q::ps,p,rs,h=>by
  unfold restP at h;split at h
  ·exact Jgl h
  ·rename_i hq
   injection h with h1 _;rw [←h1];exact hq

theorem Jgr (R:List Nd):(D0 R).length≤R.length:=by
 unfold D0;rw [List.length_take];exact Nat.min_le_right ..
theorem Jl9 {R:List Nd} {ns:List ByteArray} {j:Nat} {s:ByteArray} {E Q:List Nd} (hs:ns[j]?=some s) (h:Along (D0 R) (ns.take j) E) (hQ:EntN s E Q):Along (D0 R) (ns.take (j+1)) (seenOf Q):=by
 rw [take_at hs];exact h.snoc hQ
theorem Jk4 {R:List Nd} (hg:∀t∈R,allB t=true) (A:Option Addr) (c:Nat) (rs:Nat→Raw) (An:Option Addr) (cn:Nat) (ns:List ByteArray) (E:List Nd) (hE:Along (D0 R) ns E) (w:World)
  (hT:Trees w w.heap.size A R rs) (hN:heap.Row w w.heap.size An ns) (hl:R.length≤64) (hln:ns.length≤100000):
  Calls prog 106 #[.slice A R.length c,.slice An ns.length cn] w (TreesOut E w):=by
 have HE:Hid (∀F,Along (D0 R) ns F→F=E):=hid fun F hF=>Along.uniq (Good.root hg) hF hE;have HA:Hid (Calls prog 109 #[.slice A R.length c] w (TreesOut (D0 R) w)):=hid (Jlk A c R rs w hT (by omega));have HN:=hid hN;have HG:=hid hg;clear hT hN hg hE;go_enter func106,ntmps106
 go_wp2_with fail
 refine HA.out.mono ?_;rintro e w1 ⟨A1,c1,r1,rfl,hT1,hc1,hb1⟩;have H0:Hid (∃(D:List Nd) (A':Option Addr) (c':Nat) (r':Nat→Raw),Value.slice A1 (D0 R).length c1= .slice A' D.length c'∧Along (D0 R) (ns.take 0) D∧D.length≤R.length∧Trees w1 w1.heap.size A' D r'∧D.length≤c'∧Below w.heap.size w w1):=
  hid ⟨_,A1,c1,r1,rfl,rfl,Jgr R,hT1,hc1,hb1⟩
 clear hT1 hc1 hb1 HA;go_wp2_with fail
 go_loopw [6,5] (fun v v5 wr=>∃(j:Nat),v= .int .i64 (j:Int)∧j≤ns.length∧Hid (∃(D:List Nd) (A':Option Addr) (c':Nat) (r':Nat→Raw),v5= .slice A' D.length c'∧Along (D0 R) (ns.take j) D∧D.length≤R.length∧Trees wr wr.heap.size A' D r'∧D.length≤c'∧Below w.heap.size w wr)) (fun v _ _=>ns.length - (intOf v).toNat)
 case atStart=>exact⟨0,rfl,Nat.zero_le _,H0⟩
 case round=>
  clear H0;obtain⟨j,rfl,hj,H⟩:=hrel;obtain⟨D,A',c',r',rfl,hD,hDl,hT,hc,hb⟩:=H.out;by_cases hjl:j<ns.length
  ·obtain⟨s,hs⟩:∃s,ns[j]?=some s:=⟨_,List.getElem?_eq_getElem hjl⟩
   obtain⟨b2,off2,hAn,hb2,q3⟩:=(HN.out.keep hb) j s hs;subst hAn;have i0:(0:Int)≤(j:Int):=by omega
   have i1:(j:Int)<(ns.length:Int):=by omega
   have hgd:=hD.good (Good.root HG.out);obtain⟨Q,hQ⟩:=EntN.some (s:=s) (D:=D) fun d hd=>(hgd.asc d hd).2;have HI:=hid (Jg5 hgd.asc hQ A' c' r' wr hT (by omega));have HD:=hid (Jl9 hs hD hQ);have HL:Hid ((seenOf Q).length≤R.length):=hid (by have:=Jel Q;have:=hQ.len;omega);have HB:=hid hb;clear hs hb2 hgd hQ hT hD hb H hc hDl;go_wp2_with fail
   refine HI.out.mono ?_;rintro e w2 ⟨A2,c2,r2,rfl,hT2,hc2,hb2⟩;have HN2:Hid (∃(D:List Nd) (A':Option Addr) (c':Nat) (r':Nat→Raw),Value.slice A2 (seenOf Q).length c2= .slice A' D.length c'∧Along (D0 R) (ns.take (j+1)) D∧D.length≤R.length∧Trees w2 w2.heap.size A' D r'∧D.length≤c'∧Below w.heap.size w w2):=
    hid ⟨_,A2,c2,r2,rfl,HD.out,HL.out,hT2,hc2,HB.out.trans (hb2.mono HB.out.size)⟩
   clear hT2 hc2 hb2 HI HD HL HB q3;go_wp2_with fail
   go_roundw
   case rel=>exact⟨j+1,by go_num,by omega,HN2⟩
   case measure=>simp [intOf];omega
  ·obtain rfl:j=ns.length:=by omega
   have HF:Hid (TreesOut E w (.returned (.slice A' D.length c')) wr):=hid (by
     rw [List.take_length] at hD;obtain rfl:=HE.out _ hD;exact⟨A',c',r',rfl,hT,hc,hb⟩)
   clear hT hD hb H hc;go_wp2_with fail
   go_ret
   exact HF.out

def bx3 (A1 A2:Option Addr) (n1 c1 n2 c2:Nat) (k:Int):Obj:= .cells #[.slice A1 n1 c1,.slice A2 n2 c2,.int .i64 k] 105 (0,0)
theorem Jja {w:World} {g b o:Nat} {A1 A2:Option Addr} {n1 c1 n2 c2:Nat} {k:Int} {s:ByteArray} (hg:w.heap[g]?=some (bx3 A1 A2 n1 c1 n2 c2 k)) (hc:w.cell? ⟨b,o,none⟩=some (.string s)):b≠g:=fun e=>by
 subst e;have h1:=Jaa hg o;rw [hc] at h1;rcases o with _ |_ |_ |o<;>simp at h1
theorem Jln {w:World} {g b o:Nat} {A1 A2:Option Addr} {n1 c1 n2 c2:Nat} {k:Int} {s:Bool} (hg:w.heap[g]?=some (bx3 A1 A2 n1 c1 n2 c2 k)) (hc:w.cell? ⟨b,o,none⟩=some (.bool s)):b≠g:=fun e=>by
 subst e;have h1:=Jaa hg o;rw [hc] at h1;rcases o with _ |_ |_ |o<;>simp at h1
section
variable {w w':World} {g:Nat} {A1 A2:Option Addr} {n1 c1 n2 c2:Nat} {k:Int}
theorem row3 (hg:w.heap[g]?=some (bx3 A1 A2 n1 c1 n2 c2 k)) (ht:Tur g w w') {A:Option Addr} {N:List ByteArray} (h:heap.Row w w.heap.size A N):heap.Row w' w'.heap.size A N:=fun i s hs=>by
 obtain⟨b,off,h1,h2,h3⟩:=h i s hs;exact⟨b,off,h1,Nat.lt_of_lt_of_le h2 ht.size,(ht.cell (p:=⟨b,off+i,none⟩) h2 (Jja hg h3)).trans h3⟩
theorem txts3 (hg:w.heap[g]?=some (bx3 A1 A2 n1 c1 n2 c2 k)) (ht:Tur g w w') {A:Option Addr} {N:List ByteArray} (h:Txts w w.heap.size A N):Txts w' w'.heap.size A N:=fun i s hs=>by
 obtain⟨⟨b,off,h1,h2,h3⟩,h4⟩:=h i s hs;exact⟨⟨b,off,h1,Nat.lt_of_lt_of_le h2 ht.size,(ht.cell (p:=⟨b,off+i,none⟩) h2 (Jja hg h3)).trans h3⟩,h4⟩
theorem exts3 (hg:w.heap[g]?=some (bx3 A1 A2 n1 c1 n2 c2 k)) (ht:Tur g w w') {A:Option Addr} {N:List Ex} (h:Exts w w.heap.size A N):Exts w' w'.heap.size A N:=fun i s hs=>by
 obtain⟨⟨b,off,h1,h2,h3,h4⟩,h5⟩:=h i s hs;have hne:=Jja hg h4;exact⟨⟨b,off,h1,Nat.lt_of_lt_of_le h2 ht.size,(ht.cell (p:=⟨b,off+i*2,none⟩) h2 hne).trans h3,(ht.cell (p:=⟨b,off+i*2+1,none⟩) h2 hne).trans h4⟩,h5⟩
theorem nd3 (hg:w.heap[g]?=some (bx3 A1 A2 n1 c1 n2 c2 k)) (ht:Tur g w w') {n:Nd} {r:Raw} (h:NdAt w w.heap.size n r):NdAt w' w'.heap.size n r:=by
 induction h with
 |mk rs fit names exts cells items ih=>
  refine .mk rs fit (txts3 hg ht names) (exts3 hg ht exts) (fun i x hx=>?_) ih;obtain⟨b,off,h1,h2,h3⟩:=cells i x hx;have hne:=Jln hg (h3 1 _ rfl);exact⟨b,off,h1,Nat.lt_of_lt_of_le h2 ht.size,fun j v hj=>(ht.cell (p:=⟨b,off+i*7+j,none⟩) h2 hne).trans (h3 j v hj)⟩
theorem trees3 (hg:w.heap[g]?=some (bx3 A1 A2 n1 c1 n2 c2 k)) (ht:Tur g w w') {A:Option Addr} {T:List Nd} {rs:Nat→Raw} (h:Trees w w.heap.size A T rs):Trees w' w'.heap.size A T rs:=fun i x hx=>by
 obtain⟨⟨b,off,h1,h2,h3⟩,h4⟩:=h i x hx;have hne:=Jln hg (h3 1 _ rfl);exact⟨⟨b,off,h1,Nat.lt_of_lt_of_le h2 ht.size,fun j v hj=>(ht.cell (p:=⟨b,off+i*7+j,none⟩) h2 hne).trans (h3 j v hj)⟩,nd3 hg ht h4⟩
end
def AtIn (o:AtO) (v:Value) (w:World):Prop:=
 match o with
 | .err k=>v= .agg #[.slice none 0 0,.slice none 0 0,.int .i64 k]
 | .ok ns D=>∃A c A2 c2 rs,v= .agg #[.slice A ns.length c,.slice A2 D.length c2,.int .i64 0]∧heap.Row w w.heap.size A ns∧ns.length≤c∧(A=none→ns.length=0∧c=0)∧Trees w w.heap.size A2 D rs∧D.length≤c2
theorem AtIn.shape {o:AtO} {v:Value} {w:World} (h:AtIn o v w):∃A1 n1 c1 A2 n2 c2 k,v= .agg #[.slice A1 n1 c1,.slice A2 n2 c2,.int .i64 k]:=by
 rcases o with k |⟨ns,D⟩
 ·exact⟨_,_,_,_,_,_,_,h⟩
 ·obtain⟨A,c,A2,c2,rs,h1,_⟩:=h
  exact⟨_,_,_,_,_,_,_,h1⟩
theorem AtIn.tur {w w':World} {g:Nat} {A1 A2:Option Addr} {n1 c1 n2 c2:Nat} {k:Int} (hg:w.heap[g]?=some (bx3 A1 A2 n1 c1 n2 c2 k)) (ht:Tur g w w') {o:AtO} {v:Value} (h:AtIn o v w):AtIn o v w':=by
 rcases o with k |⟨ns,D⟩
 ·exact h
 ·obtain⟨A,c,A2,c2,rs,h1,h2,h3,h4,h5,h6⟩:=h
  exact⟨A,c,A2,c2,rs,h1,row3 hg ht h2,h3,h4,trees3 hg ht h5,h6⟩
theorem AtIn.later {w w':World} (hb:Below w.heap.size w w') {o:AtO} {v:Value} (h:AtIn o v w):AtIn o v w':=by
 rcases o with k |⟨ns,D⟩
 ·exact h
 ·obtain⟨A,c,A2,c2,rs,h1,h2,h3,h4,h5,h6⟩:=h
  exact⟨A,c,A2,c2,rs,h1,(h2.keep hb).more hb.size,h3,h4,h5.later hb,h6⟩
def AtOut (o:AtO) (w:World) (e:Ending) (w':World):Prop:=(∃v,e= .returned v∧AtIn o v w')∧Below w.heap.size w w'
def set3 (w:World) (g:Nat) (u0 u1 u2:Value):World:=((w.setCell ⟨g,0,none⟩ u0).setCell ⟨g,1,none⟩ u1).setCell ⟨g,2,none⟩ u2
theorem over3 {w:World} {g:Nat} {T:TypeId} {c0 c1 c2 u0 u1 u2:Value} (h:w.heap[g]?=some (.cells #[c0,c1,c2] T (0,0))):(set3 w g u0 u1 u2).heap[g]?=some (.cells #[u0,u1,u2] T (0,0)):=by
 simp [set3,World.setCell,Array.getElem?_modify,h]
theorem tur3 (w:World) (g:Nat) (u0 u1 u2:Value):Tur g w (set3 w g u0 u1 u2):=(((Tur.refl g w).set 0 u0).set 1 u1).set 2 u2
theorem AtIn.put {w W1 w2:World} {o:AtO} {A1 A2:Option Addr} {n1 c1 n2 c2:Nat} {k:Int} (h1:W1.heap[w.heap.size]?=some (bx3 none none 0 0 0 0 0)) (hb1:Below w.heap.size w W1) (hb:Below W1.heap.size W1 w2)
  (h:AtIn o (.agg #[.slice A1 n1 c1,.slice A2 n2 c2,.int .i64 k]) w2):∀w3,w3=set3 w2 w.heap.size (.slice A1 n1 c1) (.slice A2 n2 c2) (.int .i64 k)→
  w3.cell? ⟨w.heap.size,0,none⟩=some (.slice A1 n1 c1)∧w3.cell? ⟨w.heap.size,1,none⟩=some (.slice A2 n2 c2)∧w3.cell? ⟨w.heap.size,2,none⟩=some (.int .i64 k)∧AtOut o w (.returned (.agg #[.slice A1 n1 c1,.slice A2 n2 c2,.int .i64 k])) w3:=fun w3 hw=>by
 have hl:=lt_of_some h1;have hg:w2.heap[w.heap.size]?=some (bx3 none none 0 0 0 0 0):=(hb.block _ hl).trans h1;have ht:=tur3 w2 w.heap.size (.slice A1 n1 c1) (.slice A2 n2 c2) (.int .i64 k);have ho:=over3 (u0:= .slice A1 n1 c1) (u1:= .slice A2 n2 c2) (u2:= .int .i64 k) hg;rw [←hw] at ht ho;exact⟨Jaa ho 0,Jaa ho 1,Jaa ho 2,⟨_,rfl,h.tur hg ht⟩,(hb1.trans (hb.mono hb1.size)).trans (ht.low (Nat.le_refl _) (hb1.trans (hb.mono hb1.size)).size)⟩
structure AlIn (R:List Nd) (A:Option Addr) (rs:Nat→Raw) (An:Option Addr) (cn:Nat) (ns:List ByteArray) (Ap:Option Addr) (cp:Nat) (ps:List ByteArray) (w:World):Prop where
 trees:Trees w w.heap.size A R rs
 names:heap.Row w w.heap.size An ns
 nlen:ns.length≤cn
 nnil:An=none→ns.length=0∧cn=0
 parts:heap.Row w w.heap.size Ap ps
 plen:ps.length≤cp
 pnil:Ap=none→ps.length=0∧cp=0
theorem AlIn.later {R:List Nd} {A:Option Addr} {rs:Nat→Raw} {An:Option Addr} {cn:Nat} {ns:List ByteArray} {Ap:Option Addr} {cp:Nat} {ps:List ByteArray} {w w':World} (h:AlIn R A rs An cn ns Ap cp ps w) (hb:Below w.heap.size w w'):AlIn R A rs An cn ns Ap cp ps w':=
 ⟨h.trees.later hb,(h.names.keep hb).more hb.size,h.nlen,h.nnil,(h.parts.keep hb).more hb.size,h.plen,h.pnil⟩
def Few (ns ps:List ByteArray) (h:Nat):Prop:=ns.length+ps.length+h*600≤100000∧h≤40
def AlC (R:List Nd) (f:Bool) (ns ps:List ByteArray) (h:Nat) (o:AtO):Prop:=
 ∀(A:Option Addr) (c:Nat) (rs:Nat→Raw) (An:Option Addr) (cn:Nat) (Ap:Option Addr) (cp:Nat) (w:World),AlIn R A rs An cn ns Ap cp ps w→Few ns ps h→
  Calls prog 73 #[.slice A R.length c,.slice An ns.length cn,.slice Ap ps.length cp,.bool f,.int .i64 (h:Int)] w (AtOut o w)
theorem new3 (w:World):(w.alloc (bx3 none none 0 0 0 0 0)).heap[w.heap.size]?=some (bx3 none none 0 0 0 0 0):=heap_alloc_new w _
theorem Jr4 {R:List Nd} (hg:∀t∈R,allB t=true) (hl:R.length≤64) {f:Bool} {ns:List ByteArray} {h:Nat} {D:List Nd} (hD:Along (D0 R) ns D):AlC R f ns [] h (.ok ns D):=fun A c rs An cn Ap cp w hI hF=>by
 obtain⟨W1,hW1⟩:=words.nm (w.alloc (bx3 none none 0 0 0 0 0));have hb1:=words.b1 hW1;have hx1:W1.heap[w.heap.size]?=some (bx3 none none 0 0 0 0 0):=by rw [hW1];exact new3 w
 have hI1:=hI.later hb1;have HH:=hid (Jk4 hg A c rs An cn ns D hD W1 hI1.trees hI1.names hl (by have:=hF.1;omega));have HX:=hid hx1;have HB1:=hid hb1;have HI:=hid hI1;rw [List.length_nil];unfold bx3 at hW1;have HW1:=hid hW1;clear hI hI1 hx1 hb1 hW1 hg hD;go_enter func73,ntmps73
 go_upto_region 1 with fail
 rw [←HW1.out];clear HW1;go_wp2_with fail
 refine HH.out.mono ?_;rintro e w2 ⟨A2,c2,r2,rfl,hT2,hc2,hb2⟩;have hg2:=(hb2.block _ (lt_of_some HX.out)).trans HX.out;have hI2:=HI.out.later hb2;have HP:=hid ((show AtIn (.ok ns D) (.agg #[.slice An ns.length cn,.slice A2 D.length c2,.int .i64 0]) w2 from⟨An,cn,A2,c2,r2,rfl,hI2.names,hI2.nlen,hI2.nnil,hT2,hc2⟩).put HX.out HB1.out hb2);unfold bx3 at hg2;have z0:=Jab hg2 0;have z1:=Jab hg2 1;have z2:=Jab hg2 2;have d0:w2.cell? ⟨w.heap.size,0,none⟩=some (.slice none 0 0):=Jaa hg2 0;have d1:w2.cell? ⟨w.heap.size,1,none⟩=some (.slice none 0 0):=Jaa hg2 1;have d2:w2.cell? ⟨w.heap.size,2,none⟩=some (.int .i64 0):=Jaa hg2 2;clear hg2 hI2 hT2 hc2 hb2;go_wp2_with fail
 obtain⟨p0,p1,p2,HE⟩:=HP.out _ rfl;unfold set3 at p0 p1 p2 HE;exact bodyPost_ret (v:= .agg #[.slice An ns.length cn,.slice A2 D.length c2,.int .i64 0]) (by simp [results,results73,go_sem,p0,p1,p2]) rfl HE
theorem Js9 (A:Option Addr) (n cap k:Nat) (h:k≤cap) (wx:World):
  (Instr.slice 47 (.slice A n cap) none (some (.int .i64 (k:Int))) none).run prog wx= .ok (.slice A k cap) wx:=by
 obtain⟨i0,hi,hz0,hz1,hz2⟩:=info_parts infoStr;have he:Tryz.prog.elem 47=9:=by kernel_rfl
 rw [run_slice_h (P:=prog) wx 47 A n cap (by kernel_rfl) .i64 (k:Int) (by omega) (by omega),he];simp [sizeOf,typeInfo,hi,hz1,Result.andThen,sliced];rcases A with _ |A
 ·intro _;rfl
 ·simp [Addr.add]
theorem Js7 {w:World} {B:Nat} {A:Option Addr} {ns:List ByteArray} (h:heap.Row w B A ns) (k:Nat):heap.Row w B A (ns.take k):=fun i s hs=>h i s (by
  rw [List.getElem?_take] at hs;split at hs
  ·exact hs
  ·cases hs)
structure Cut (w:World) (Ap:Option Addr) (cp:Nat) (p:ByteArray) (ps:List ByteArray) (b off:Nat) (A2:Option Addr):Prop where
 eq:Ap=some ⟨b,off,none⟩
 lt:b<w.heap.size
 c0:w.cell? ⟨b,off,none⟩=some (.string p)
 cut:∀wx:World,(Instr.slice 47 (.slice (some ⟨b,off,none⟩) (ps.length+1) cp) (some (.int .i64 1)) none none).run prog wx= .ok (.slice A2 ps.length (cp - 1)) wx
 row:heap.Row w w.heap.size A2 ps
 len:ps.length≤cp - 1
 nil:A2=none→ps.length=0∧cp - 1=0
theorem Jh2 {w:World} {Ap:Option Addr} {cp:Nat} {p:ByteArray} {ps:List ByteArray} (h:heap.Row w w.heap.size Ap (p::ps)) (hc:(p::ps).length≤cp):∃b off A2,Cut w Ap cp p ps b off A2:=by
 obtain⟨b,off,rfl,h2,h3⟩:=h 0 p rfl;rw [Nat.add_zero] at h3;rw [List.length_cons] at hc;refine⟨b,off,if cp=1 then (some (⟨b,off,none⟩:Addr)) else (some (⟨b,off,none⟩:Addr)).map (·.add 1),rfl,h2,h3,fun wx=>?_,Jif h hc,by omega,fun e=>?_⟩
 ·have h:=Jku (some ⟨b,off,none⟩) (ps.length+1) cp (by omega) wx
  rw [Nat.add_sub_cancel] at h;exact h
 ·split at e<;>cases e
theorem Jtt {R:List Nd} {f:Bool} {ns ps:List ByteArray} {h:Nat} {o:AtO} (hC:AlC R f (ns.take (ns.length - 1)) ps h o):AlC R f ns (dd::ps) h o:=fun A c rs An cn Ap cp w hI hF=>by
 obtain⟨W1,hW1⟩:=words.nm (w.alloc (bx3 none none 0 0 0 0 0));have hb1:=words.b1 hW1;have hx1:W1.heap[w.heap.size]?=some (bx3 none none 0 0 0 0 0):=by rw [hW1];exact new3 w
 have hI1:=hI.later hb1;obtain⟨b,off,A2,hcut⟩:=Jh2 hI1.parts hI1.plen;obtain rfl:=hcut.eq;have c0:=hcut.c0;have hc1:=hcut.cut;obtain⟨k,hk⟩:=words.nm (ns.length - 1);have hkl:(ns.take k).length=k:=by rw [List.length_take];omega
 have hkc:k≤cn:=by have:=hI1.nlen;omega
 have HC:Hid (Calls prog 73 #[.slice A R.length c,.slice An k cn,.slice A2 ps.length (cp - 1),.bool f,.int .i64 (h:Int)] W1 (AtOut o W1)):=hid (by
   have h1:=hC A c rs An cn A2 (cp - 1) W1 ⟨hI1.trees,Js7 hI1.names _,by rw [←hk,hkl];exact hkc,fun e=>⟨by rw [←hk,hkl];have:=(hI1.nnil e).1;omega,(hI1.nnil e).2⟩,hcut.row,hcut.len,hcut.nil⟩ (by
     have h2:=hF;unfold Few at h2 ⊢;rw [List.length_cons] at h2;rw [←hk,hkl];omega)
   rw [←hk,hkl] at h1;exact h1)
 have hct:=Js9 An ns.length cn k hkc;have HX:=hid hx1;have HB1:=hid hb1;rw [List.length_cons];obtain⟨n,hn⟩:=words.nm (ns.length);have hnl:n≤100000:=by have:=hF.1;omega
 rw [←hn] at hct hk ⊢;unfold bx3 at hW1;have HW1:=hid hW1;have hd:(dd.toList==[46,46])=true:=by rw [Jhq];rfl
 have q1:IntKind.i64.wrap ((n:Int) - 1)=(n:Int) - 1:=IntWalk.i64_in _ (by omega);have l0:(0:Int)<((ps.length:Int)+1):=by omega
 have HEnd:Hid (∀e w2,AtOut o W1 e w2→∃A1 n1 c1 A2 n2 c2 k,e= .returned (.agg #[.slice A1 n1 c1,.slice A2 n2 c2,.int .i64 k])∧w2.heap[w.heap.size]?=some (bx3 none none 0 0 0 0 0)∧(∀w3,w3=set3 w2 w.heap.size (.slice A1 n1 c1) (.slice A2 n2 c2) (.int .i64 k)→
     w3.cell? ⟨w.heap.size,0,none⟩=some (.slice A1 n1 c1)∧w3.cell? ⟨w.heap.size,1,none⟩=some (.slice A2 n2 c2)∧w3.cell? ⟨w.heap.size,2,none⟩=some (.int .i64 k)∧AtOut o w (.returned (.agg #[.slice A1 n1 c1,.slice A2 n2 c2,.int .i64 k])) w3)):=hid fun e w2 ⟨⟨v,he,hv⟩,hb⟩=>by
   obtain⟨A1,n1,c1,A2,n2,c2,k,rfl⟩:=hv.shape;exact⟨A1,n1,c1,A2,n2,c2,k,he,(hb.block _ (lt_of_some hx1)).trans hx1,hv.put hx1 hb1 hb⟩
 have hcase:(n=0∧k=0)∨(1≤n∧((n:Int) - 1)=(k:Int)):=by omega
 clear hI hI1 hx1 hb1 hW1 hcut hC hkl hkc hk hn hF;rcases hcase with⟨rfl,rfl⟩ |⟨hn1,hke⟩
 ·go_enter func73,ntmps73
  go_upto_region 1 with fail
  rw [←HW1.out];clear HW1;have hct0:∀wx:World,(Instr.slice 47 (.slice An 0 cn) none (some (.int .i64 0)) none).run prog wx= .ok (.slice An 0 cn) wx:=hct;go_wp2_with fail
  refine HC.out.mono ?_;rintro e w2 hout;obtain⟨A1,n1,c1,A3,n2,c2,k2,rfl,hg2,HP0⟩:=HEnd.out e w2 hout;have HP:=hid HP0;unfold bx3 at hg2;have z0:=Jab hg2 0;have z1:=Jab hg2 1;have z2:=Jab hg2 2;have d0:w2.cell? ⟨w.heap.size,0,none⟩=some (.slice none 0 0):=Jaa hg2 0;have d1:w2.cell? ⟨w.heap.size,1,none⟩=some (.slice none 0 0):=Jaa hg2 1;have d2:w2.cell? ⟨w.heap.size,2,none⟩=some (.int .i64 0):=Jaa hg2 2;clear hg2 HP0 hout;go_wp2_with fail
  obtain⟨p0,p1,p2,HE⟩:=HP.out _ rfl;unfold set3 at p0 p1 p2 HE;exact bodyPost_ret (v:= .agg #[.slice A1 n1 c1,.slice A3 n2 c2,.int .i64 k2]) (by simp [results,results73,go_sem,p0,p1,p2]) rfl HE
 ·have hk0:¬((k:Int)<0):=by omega
  go_enter func73,ntmps73
  go_upto_region 1 with fail
  rw [←HW1.out];clear HW1;go_wp2_with fail
  refine HC.out.mono ?_;rintro e w2 hout;obtain⟨A1,n1,c1,A3,n2,c2,k2,rfl,hg2,HP0⟩:=HEnd.out e w2 hout;have HP:=hid HP0;unfold bx3 at hg2;have z0:=Jab hg2 0;have z1:=Jab hg2 1;have z2:=Jab hg2 2;have d0:w2.cell? ⟨w.heap.size,0,none⟩=some (.slice none 0 0):=Jaa hg2 0;have d1:w2.cell? ⟨w.heap.size,1,none⟩=some (.slice none 0 0):=Jaa hg2 1;have d2:w2.cell? ⟨w.heap.size,2,none⟩=some (.int .i64 0):=Jaa hg2 2;clear hg2 HP0 hout;go_wp2_with fail
  obtain⟨p0,p1,p2,HE⟩:=HP.out _ rfl;unfold set3 at p0 p1 p2 HE;exact bodyPost_ret (v:= .agg #[.slice A1 n1 c1,.slice A3 n2 c2,.int .i64 k2]) (by simp [results,results73,go_sem,p0,p1,p2]) rfl HE

inductive Stp (R:List Nd) (f:Bool) (ns:List ByteArray) (p:ByteArray) (ps:List ByteArray) (h:Nat) (o:AtO) (S:List Nd):Prop
 |none:S=[]→o= .err 2→Stp R f ns p ps h o S
 |dir (d:Nd) (S':List Nd):S=d::S'→d.K=2→AlC R f (ns++[p]) ps h o→Stp R f ns p ps h o S
 |loop (d:Nd) (S':List Nd):S=d::S'→d.K=3→(f=true∨0<ps.length)→h=0→o= .err 4→Stp R f ns p ps h o S
 |hop (d:Nd) (S':List Nd) (qs:List ByteArray) (h':Nat):S=d::S'→d.K=3→(f=true∨0<ps.length)→h=h'+1→parts d.T.data.toList=some (qs.map fun y=>y.data.toList)→d.T.size≤256→
   AlC R f (if (d.T.data.toList.head?==some 47)=true then [] else ns) (qs++ps) h' o→Stp R f ns p ps h o S
 |not (d:Nd) (S':List Nd):S=d::S'→d.K≠2→¬(d.K=3∧(f=true∨0<ps.length))→0<ps.length→o= .err 3→Stp R f ns p ps h o S
 |leaf (d:Nd) (S':List Nd):S=d::S'→d.K≠2→¬(d.K=3∧(f=true∨0<ps.length))→ps=[]→o= .ok (ns++[p]) (d::S')→Stp R f ns p ps h o S
theorem Jba (N:List ByteArray):∀u∈N.map Value.string,u.oneCell'=true:=fun u hu=>by
 obtain⟨x,_,rfl⟩:=List.mem_map.1 hu;rfl
theorem Jp3 (w:World) (p:ByteArray):Lies (w.alloc (.cells #[.string p] 9)) (some ⟨w.heap.size,0,none⟩) [.string p]:=fun j u hj=>by
 rcases j with _ |j
 ·obtain rfl:Value.string p=u:=by simpa using hj
  exact⟨_,0,rfl,lt_of_some (heap_alloc_new w _),Jaa (heap_alloc_new w _) 0⟩
 ·simp at hj
theorem Jed {R:List Nd} (hg:∀t∈R,allB t=true) (hl:R.length≤64) {f:Bool} {ns:List ByteArray} {p:ByteArray} {ps:List ByteArray} {h:Nat} {o:AtO} {D Q:List Nd} (hp:p≠dd) (hD:Along (D0 R) ns D) (hQ:EntN p D Q) (hS:Stp R f ns p ps h o (seenOf Q)):AlC R f ns (p::ps) h o:=fun A c rs An cn Ap cp w hI hF=>by
 obtain⟨is,his,sz0,sz1,sz2⟩:=info_parts infoStr;obtain⟨W1,hW1⟩:=words.nm (w.alloc (bx3 none none 0 0 0 0 0));have hb1:=words.b1 hW1;have hx1:W1.heap[w.heap.size]?=some (bx3 none none 0 0 0 0 0):=by rw [hW1];exact new3 w
 have hI1:=hI.later hb1;obtain⟨b,off,Ap2,hcut⟩:=Jh2 hI1.parts hI1.plen;obtain rfl:=hcut.eq;have c0:=hcut.c0;have hc1:=hcut.cut;have hgd:=hD.good (Good.root hg);have hDl:D.length≤R.length:=Nat.le_trans hD.len (Jgr R);have HH:=hid (Jk4 hg A c rs An cn ns D hD W1 hI1.trees hI1.names hl (by have:=hF.1;omega));have HR:Hid (∀(A:Option Addr) (c:Nat) (rs:Nat→Raw) (w:World),Trees w w.heap.size A D rs→Calls prog 75 #[.slice A D.length c,.string p] w (TreesOut (seenOf Q) w)):=hid fun A c rs w hT=>Jg5 hgd.asc hQ A c rs w hT (by omega);obtain⟨S,hSe⟩:=words.nm (seenOf Q);rw [←hSe] at hS HR;have HX:=hid hx1;have HB1:=hid hb1;have HI:=hid hI1;have HCt:=hid hcut;have HS:=hid hS;have HFw:=hid hF;have hnl:ns.length≤100000:=by have:=hF.1;omega
 have hpl:ps.length≤100000:=by have:=hF.1;rw [List.length_cons] at this;omega
 have hd:(p.toList==[46,46])=false:=by
  rw [beq_eq_false_iff_ne];exact fun e=>hp (heap.toList_inj (e.trans Jhq.symm))
 have l0:(0:Int)<((ps.length:Int)+1):=by omega
 rw [List.length_cons];unfold bx3 at hW1;have HW1:=hid hW1;clear hI hI1 hx1 hb1 hW1 hcut hgd hDl hSe hS hF hD hQ hg hp;go_enter func73,ntmps73
 go_upto_region 1 with fail
 rw [←HW1.out];clear HW1;go_wp2_with fail
 refine HH.out.mono ?_;rintro e w2 ⟨A2,c2,r2,rfl,hT2,hc2,hb2⟩;have HA:=hid (HR.out A2 c2 r2 w2 hT2);have HB2:=hid hb2;clear HR HH hT2 hc2 hb2 c0 hd l0;go_wp2_with fail
 refine HA.out.mono ?_;rintro e w3 ⟨A3,c3,r3,rfl,hT3,hc3,hb3⟩;have HB3:=hid (HB2.out.trans (hb3.mono HB2.out.size));have HT3:=hid hT3;have HC3:=hid hc3;clear HA HB2 hT3 hc3 hb3;have hSc:=HS.out;rcases S with _ |⟨d,S'⟩
 ·have ho:o= .err 2:=by
   cases hSc with
   |none _ h2=>exact h2
   |dir _ _ h1=>cases h1
   |loop _ _ h1=>cases h1
   |hop _ _ _ _ h1=>cases h1
   |not _ _ h1=>cases h1
   |leaf _ _ h1=>cases h1
  subst ho;rw [List.length_nil];obtain⟨W9,hW9⟩:=words.nm (w3);have HB9:Hid (Below W1.heap.size W1 W9):=by rw [hW9];exact HB3
  subst hW9;clear hSc HS HT3 HC3;have HP:=hid ((show AtIn (.err 2) (.agg #[.slice none 0 0,.slice none 0 0,.int .i64 2]) W9 from rfl).put HX.out HB1.out HB9.out);have hg2:=(HB9.out.block _ (lt_of_some HX.out)).trans HX.out;unfold bx3 at hg2;have z0:=Jab hg2 0;have z1:=Jab hg2 1;have z2:=Jab hg2 2;have d0:W9.cell? ⟨w.heap.size,0,none⟩=some (.slice none 0 0):=Jaa hg2 0;have d1:W9.cell? ⟨w.heap.size,1,none⟩=some (.slice none 0 0):=Jaa hg2 1;have d2:W9.cell? ⟨w.heap.size,2,none⟩=some (.int .i64 0):=Jaa hg2 2;clear hg2;go_wp2_with fail
  obtain⟨p0,p1,p2,HE⟩:=HP.out _ rfl;unfold set3 at p0 p1 p2 HE;exact bodyPost_ret (v:= .agg #[.slice none 0 0,.slice none 0 0,.int .i64 2]) (by simp [results,results73,go_sem,p0,p1,p2]) rfl HE
 have g0:(((S'.length:Int)+1)==0)=false:=by rw [beq_eq_false_iff_ne];omega
 have g1:(0:Int)<(S'.length:Int)+1:=by omega
 rw [List.length_cons];obtain⟨W4,hW4⟩:=words.nm (w3.alloc (.cells #[] 9));have hb4:Below w3.heap.size w3 W4:=words.b1 hW4;have HO4:Hid (W4.ownsRow w3.heap.size 9 1 (.slice (some ⟨w3.heap.size,0,none⟩) 0 0) 0 []):=hid (by rw [hW4];exact World.ownsRow_made w3 #[] 0 (Nat.le_refl _) (by decide) rfl);have HB4:=hid hb4;have HL4:=hid (Jbb ((HI.out.later (HB3.out.trans (hb4.mono HB3.out.size))).names));have HZn:=hid HI.out.nnil;have HW4:=hid hW4.symm;clear hW4 hb4;go_upto_region 14 with (first
   |(at_builtin;rw [HW4.out];refine Jaf rfl (.tmp 55) (.tmp 56) 47 rfl w3.heap.size 9 is _ 1 16 underlying47 his sz0 sz1 sz2 rfl (by omega) (.slice (some ⟨w3.heap.size,0,none⟩) 0 0) 0 [] rfl HO4.out An ns.length cn (ns.map Value.string) HZn.out rfl (by simp) HL4.out (Jba ns) (by simp only [maxLen];omega) (by omega) HB4.out.size ?_;intro vr w5 hown hgrow;rw [Nat.zero_add,List.nil_append] at hown;obtain⟨Ar,cr,rfl,_,_⟩:=tre.own_facts hown;have HB5:=hid (Jad HB4.out HO4.out hgrow (Nat.le_refl _) (Nat.le_refl _));have HO5:=hid hown;clear hown hgrow;obtain⟨W6,hW6⟩:∃W6,W6=w5.alloc (.cells #[.string p] 9):=⟨_,rfl⟩;have hb6:Below w5.heap.size w5 W6:=(words.b1 hW6);have HO6:=hid (seen.ownL HO5.out hb6);have HL6:Hid (Lies W6 (some ⟨w5.heap.size,0,none⟩) [.string p]):=hid (by rw [hW6];exact Jp3 w5 p);have HB6:=hid (HB5.out.trans (hb6.mono HB5.out.size));have HW6:=hid hW6.symm;clear hW6 hb6)
   |(at_builtin;rw [HW6.out];refine Jaf rfl (.tmp 57) (.tmp 59) 47 rfl w3.heap.size 9 is _ 1 16 underlying47 his sz0 sz1 sz2 rfl (by omega) (.slice Ar ns.length cr) ns.length (ns.map Value.string) rfl HO6.out (some ⟨w5.heap.size,0,none⟩) 1 1 [.string p] (fun h=>by cases h) rfl rfl HL6.out (Jba [p]) (by simp only [maxLen];omega) (by omega) HB6.out.size ?_;intro vm w7 hown hgrow;obtain⟨Am,cm,rfl,hcm,hzm⟩:=tre.own_facts hown;have HB7:=hid (Jad HB6.out HO6.out hgrow (Nat.le_refl _) (Nat.le_refl _));have HCm:=hid hcm;have HZm:=hid hzm;have HRm:Hid (heap.Row w7 w7.heap.size Am (ns++[p])):=hid (Jaz (N:=ns++[p]) (by rw [List.map_append];exact hown));clear hown hgrow hcm hzm)
   |fail)
 obtain⟨W9,hW9⟩:=words.nm (w7);have HB9:Hid (Below W1.heap.size W1 W9):=hid (by rw [hW9];exact HB3.out.trans (HB7.out.mono HB3.out.size));have HT9:Hid (Trees W9 W9.heap.size A3 (d::S') r3):=hid (by rw [hW9];exact HT3.out.later HB7.out);subst hW9;obtain⟨⟨b3,o3,hA3,hb3,hc3⟩,_⟩:=HT9.out 0 d rfl;subst hA3;have k0:W9.cell? ⟨b3,o3,none⟩=some (.int .i64 d.K):=hc3 0 _ rfl;have k6:W9.cell? ⟨b3,o3+6,none⟩=some (.string d.T):=hc3 6 _ rfl;clear hc3;obtain⟨K,hK⟩:=words.nm (d.K);rw [←hK] at k0;have HIm:Hid (AlIn R A rs Am cm (ns++[p]) Ap2 (cp - 1) ps W9):=hid (
   have h1:=HI.out.later HB9.out;have h2:=(HCt.out.row.keep HB9.out).more HB9.out.size
   ⟨h1.trees,HRm.out,by rw [List.length_append,List.length_singleton];exact HCm.out,fun e=>by rw [List.length_append,List.length_singleton];exact HZm.out e,h2,HCt.out.len,HCt.out.nil⟩)
 have HIo:Hid (AlIn R A rs An cn ns Ap2 (cp - 1) ps W9):=hid (
   have h1:=HI.out.later HB9.out
   ⟨h1.trees,h1.names,h1.nlen,h1.nnil,HIm.out.parts,HIm.out.plen,HIm.out.pnil⟩)
 clear HRm HCm HZm HO4 HB4 HL4 HZn HW4 HB5 HO5 HB6 HO6 HL6 HW6 HB7 HT3 g0;cases hSc with
 |none h1=>cases h1
 |dir d2 S2 h1 h2 hC=>
  injection h1 with e1 e2;subst e1;have hK2:K=2:=hK.trans h2;subst hK2;have HC:Hid (Calls prog 73 #[.slice A R.length c,.slice Am (ns.length+1) cm,.slice Ap2 ps.length (cp - 1),.bool f,.int .i64 (h:Int)] W9 (AtOut o W9)):=hid (by
    have h3:=hC A c rs Am cm Ap2 (cp - 1) W9 HIm.out (by
      have h4:=HFw.out;unfold Few at h4 ⊢;rw [List.length_cons] at h4;rw [List.length_append,List.length_singleton];omega)
    rw [List.length_append,List.length_singleton] at h3;exact h3)
  clear hC hK HS e2 k6;go_wp2_with fail
  refine HC.out.mono ?_;rintro e w2 ⟨⟨v,he,hv⟩,hbz⟩;obtain⟨B1,m1,e1,B2,m2,e2,kz,rfl⟩:=hv.shape;subst he;have HP:=hid (hv.put HX.out HB1.out (HB9.out.trans (hbz.mono HB9.out.size)));have hg2:=((HB9.out.trans (hbz.mono HB9.out.size)).block _ (lt_of_some HX.out)).trans HX.out;unfold bx3 at hg2;have z0:=Jab hg2 0;have z1:=Jab hg2 1;have z2:=Jab hg2 2;have d0:w2.cell? ⟨w.heap.size,0,none⟩=some (.slice none 0 0):=Jaa hg2 0;have d1:w2.cell? ⟨w.heap.size,1,none⟩=some (.slice none 0 0):=Jaa hg2 1;have d2:w2.cell? ⟨w.heap.size,2,none⟩=some (.int .i64 0):=Jaa hg2 2;clear hg2 hv hbz;go_wp2_with fail
  obtain⟨p0,p1,p2,HE⟩:=HP.out _ rfl;unfold set3 at p0 p1 p2 HE;exact bodyPost_ret (v:= .agg #[.slice B1 m1 e1,.slice B2 m2 e2,.int .i64 kz]) (by simp [results,results73,go_sem,p0,p1,p2]) rfl HE
 |loop d2 S2 h1 h2 hcnd h0 ho=>
  injection h1 with e1 e2;subst e1;have hK2:K=3:=hK.trans h2;subst hK2;subst h0;subst ho;clear hK HS e2 k6 HIm HIo;rcases ps with _ |⟨p2,ps⟩
  ·have hf:f=true:=by
    rcases hcnd with h |h
    ·exact h
    ·simp at h
   subst hf;rw [List.length_nil];clear hcnd;have HP:=hid ((show AtIn (.err 4) (.agg #[.slice none 0 0,.slice none 0 0,.int .i64 4]) W9 from rfl).put HX.out HB1.out HB9.out);have hg2:=(HB9.out.block _ (lt_of_some HX.out)).trans HX.out;unfold bx3 at hg2;have z0:=Jab hg2 0;have z1:=Jab hg2 1;have z2:=Jab hg2 2;have d0:W9.cell? ⟨w.heap.size,0,none⟩=some (.slice none 0 0):=Jaa hg2 0;have d1:W9.cell? ⟨w.heap.size,1,none⟩=some (.slice none 0 0):=Jaa hg2 1;have d2:W9.cell? ⟨w.heap.size,2,none⟩=some (.int .i64 0):=Jaa hg2 2;clear hg2;go_wp2_with fail
   obtain⟨p0,p1,p2,HE⟩:=HP.out _ rfl;unfold set3 at p0 p1 p2 HE;exact bodyPost_ret (v:= .agg #[.slice none 0 0,.slice none 0 0,.int .i64 4]) (by simp [results,results73,go_sem,p0,p1,p2]) rfl HE
  ·rw [List.length_cons]
   have g2:(0:Int)<(ps.length:Int)+1:=by omega
   clear hcnd;have HP:=hid ((show AtIn (.err 4) (.agg #[.slice none 0 0,.slice none 0 0,.int .i64 4]) W9 from rfl).put HX.out HB1.out HB9.out);have hg2:=(HB9.out.block _ (lt_of_some HX.out)).trans HX.out;unfold bx3 at hg2;have z0:=Jab hg2 0;have z1:=Jab hg2 1;have z2:=Jab hg2 2;have d0:W9.cell? ⟨w.heap.size,0,none⟩=some (.slice none 0 0):=Jaa hg2 0;have d1:W9.cell? ⟨w.heap.size,1,none⟩=some (.slice none 0 0):=Jaa hg2 1;have d2:W9.cell? ⟨w.heap.size,2,none⟩=some (.int .i64 0):=Jaa hg2 2;clear hg2;go_wp2_with fail
   obtain⟨p0,p1,p2,HE⟩:=HP.out _ rfl;unfold set3 at p0 p1 p2 HE;exact bodyPost_ret (v:= .agg #[.slice none 0 0,.slice none 0 0,.int .i64 4]) (by simp [results,results73,go_sem,p0,p1,p2]) rfl HE
 |not d2 S2 h1 h2 hcnd hps ho=>
  injection h1 with e1 e2;subst e1;subst ho;rcases ps with _ |⟨p2,ps⟩
  ·simp at hps
  have g3:(K==3)=false:=by rw [beq_eq_false_iff_ne,hK];exact fun h=>hcnd ⟨h,.inr hps⟩
  have g4:(K==2)=false:=by rw [beq_eq_false_iff_ne,hK];exact h2
  rw [List.length_cons];have g2:(0:Int)<(ps.length:Int)+1:=by omega
  clear hK HS e2 k6 HIm HIo hcnd hps h2;have HP:=hid ((show AtIn (.err 3) (.agg #[.slice none 0 0,.slice none 0 0,.int .i64 3]) W9 from rfl).put HX.out HB1.out HB9.out);have hg2:=(HB9.out.block _ (lt_of_some HX.out)).trans HX.out;unfold bx3 at hg2;have z0:=Jab hg2 0;have z1:=Jab hg2 1;have z2:=Jab hg2 2;have d0:W9.cell? ⟨w.heap.size,0,none⟩=some (.slice none 0 0):=Jaa hg2 0;have d1:W9.cell? ⟨w.heap.size,1,none⟩=some (.slice none 0 0):=Jaa hg2 1;have d2:W9.cell? ⟨w.heap.size,2,none⟩=some (.int .i64 0):=Jaa hg2 2;clear hg2;go_wp2_with fail
  obtain⟨p0,p1,p2,HE⟩:=HP.out _ rfl;unfold set3 at p0 p1 p2 HE;exact bodyPost_ret (v:= .agg #[.slice none 0 0,.slice none 0 0,.int .i64 3]) (by simp [results,results73,go_sem,p0,p1,p2]) rfl HE
 |leaf d2 S2 h1 h2 hcnd hps ho=>
  injection h1 with e1 e2;subst e1;subst e2;subst ho;subst hps;have g4:(K==2)=false:=by rw [beq_eq_false_iff_ne,hK];exact h2
  rw [List.length_nil];have HP:=hid ((show AtIn (.ok (ns++[p]) (d::S')) (.agg #[.slice Am (ns.length+1) cm,.slice (some ⟨b3,o3,none⟩) (S'.length+1) c3,.int .i64 0]) W9 from
    ⟨Am,cm,_,c3,r3,by rw [List.length_append,List.length_singleton,List.length_cons],HIm.out.names,HIm.out.nlen,HIm.out.nnil,HT9.out,HC3.out⟩).put HX.out HB1.out HB9.out)
  have hg2:=(HB9.out.block _ (lt_of_some HX.out)).trans HX.out;unfold bx3 at hg2;have z0:=Jab hg2 0;have z1:=Jab hg2 1;have z2:=Jab hg2 2;have d0:W9.cell? ⟨w.heap.size,0,none⟩=some (.slice none 0 0):=Jaa hg2 0;have d1:W9.cell? ⟨w.heap.size,1,none⟩=some (.slice none 0 0):=Jaa hg2 1;have d2:W9.cell? ⟨w.heap.size,2,none⟩=some (.int .i64 0):=Jaa hg2 2;have hcase:(K==3)=false∨(K=3∧f=false):=by
   rcases f with _ |_
   ·by_cases h3:K=3
    ·exact .inr ⟨h3,rfl⟩
    ·exact .inl (by rw [beq_eq_false_iff_ne];exact h3)
   ·exact .inl (by rw [beq_eq_false_iff_ne,hK];exact fun h=>hcnd ⟨h,.inl rfl⟩)
  clear hg2 hK HS k6 HIm HIo hcnd h2;rcases hcase with g3 |⟨rfl,rfl⟩
  ·go_wp2_with fail
   obtain⟨p0,p1,p2,HE⟩:=HP.out _ rfl;unfold set3 at p0 p1 p2 HE;exact bodyPost_ret (v:= .agg #[.slice Am (ns.length+1) cm,.slice (some ⟨b3,o3,none⟩) (S'.length+1) c3,.int .i64 0]) (by simp [results,results73,go_sem,p0,p1,p2]) rfl HE
  ·clear g4
   go_wp2_with fail
   obtain⟨p0,p1,p2,HE⟩:=HP.out _ rfl;unfold set3 at p0 p1 p2 HE;exact bodyPost_ret (v:= .agg #[.slice Am (ns.length+1) cm,.slice (some ⟨b3,o3,none⟩) (S'.length+1) c3,.int .i64 0]) (by simp [results,results73,go_sem,p0,p1,p2]) rfl HE
 |hop d2 S2 qs h' h1 h2 hcnd hh hpa hsz hC=>
  injection h1 with e1 e2;subst e1;have hK2:K=3:=hK.trans h2;subst hK2;have hpl2:=Jb4 hpa;rw [List.length_map] at hpl2;obtain⟨tx,htx⟩:=words.nm (d.T);rw [←htx] at k6 hpa hsz hC hpl2;rw [name.size_list] at hpl2;have hql:qs.length≤513:=by omega
  have hs0:0<tx.size:=by omega
  have hs1:(0:Int)<(tx.size:Int):=by omega
  have hby:=Jis tx hs0;have HSp:=hid (Jcj tx W9 (by omega));have g5:((h:Int)==0)=false:=by rw [beq_eq_false_iff_ne];omega
  have w8:IntKind.i64.wrap ((h:Int) - 1)=(h':Int):=by
   have e:(h:Int) - 1=(h':Int):=by omega
   rw [e];have:=HFw.out.2;exact IntWalk.i64_in _ (by omega)
  have HPa:=hid hpa;have HC:Hid (∀(Ax:Option Addr) (cx:Nat) (Ay:Option Addr) (cy:Nat) (W:World),Below W9.heap.size W9 W→heap.Row W W.heap.size Ax (if (tx.data.toList.head?==some 47)=true then [] else ns)→(if (tx.data.toList.head?==some 47)=true then [] else ns).length≤cx→(Ax=none→(if (tx.data.toList.head?==some 47)=true then [] else ns).length=0∧cx=0)→
      heap.Row W W.heap.size Ay (qs++ps)→(qs++ps).length≤cy→(Ay=none→(qs++ps).length=0∧cy=0)→
      Calls prog 73 #[.slice A R.length c,.slice Ax (if (tx.data.toList.head?==some 47)=true then [] else ns).length cx,.slice Ay (qs++ps).length cy,.bool f,.int .i64 (h':Int)] W (AtOut o W)):=hid fun Ax cx Ay cy W hb hr1 hr2 hr3 hr4 hr5 hr6=>
    hC A c rs Ax cx Ay cy W ⟨HIo.out.trees.later hb,hr1,hr2,hr3,hr4,hr5,hr6⟩ (by
      have h4:=HFw.out;unfold Few at h4 ⊢;rw [List.length_cons] at h4;rw [List.length_append];have h5:(if (tx.data.toList.head?==some 47)=true then [] else ns).length≤ns.length:=by split<;>simp
      omega)
  have HDi:=hid (fun (Q:List ByteArray) (hQ:parts tx.data.toList=some (Q.map fun x=>x.data.toList))=>show qs=Q by
    have e:=hpa.symm.trans hQ;injection e with e;exact Jc0 e)
  clear hC hK HS e2 hpa hpl2 hh htx HIm;rcases ps with _ |⟨p2,ps⟩
  ·have hf:f=true:=by
    rcases hcnd with h |h
    ·exact h
    ·simp at h
   subst hf;rw [List.length_nil];clear hcnd;rcases hrt:(tx.data.toList.head?==some 47) with _ |_
   ·have HC2:Hid (∀(Ay:Option Addr) (cy:Nat) (W:World),Below W9.heap.size W9 W→heap.Row W W.heap.size Ay (qs++[])→(qs++[]).length≤cy→(Ay=none→(qs++[]).length=0∧cy=0)→
        Calls prog 73 #[.slice A R.length c,.slice An ns.length cn,.slice Ay (qs++[]).length cy,.bool true,.int .i64 (h':Int)] W (AtOut o W)):=hid fun Ay cy W hb h1 h2 h3=>by
      have h4:=HC.out An cn Ay cy W hb;rw [hrt] at h4;rw [if_neg (by decide)] at h4;exact h4 ((HIo.out.later hb).names) HIo.out.nlen HIo.out.nnil h1 h2 h3
    rw [hrt] at hby;clear HC hrt;go_upto_region 21 with fail
    clear g5 k0;go_wp2_with fail
    refine HSp.out.mono ?_;rintro e w10 ⟨hto,hb10⟩;rcases hto with⟨hno,_⟩ |⟨v,Q,hQ,rfl,hown⟩
    ·rw [HPa.out] at hno;cases hno
    obtain rfl:=HDi.out Q hQ;obtain⟨Aq,cq,rfl,hcq,hzq⟩:=tre.own_facts hown;have HRq:=hid (Jaz hown);have HZq:=hid hzq;have HB10:=hid hb10;have k7:w10.cell? ⟨b3,o3+6,none⟩=some (.string tx):=(hb10.cell (p:=⟨b3,o3+6,none⟩) hb3).trans k6;obtain⟨W11,hW11⟩:=words.nm (w10.alloc (.cells #[] 9));have hb11:Below w10.heap.size w10 W11:=words.b1 hW11;have HO11:Hid (W11.ownsRow w10.heap.size 9 1 (.slice (some ⟨w10.heap.size,0,none⟩) 0 0) 0 []):=hid (by rw [hW11];exact World.ownsRow_made w10 #[] 0 (Nat.le_refl _) (by decide) rfl);have HB11:=hid hb11;have HL11:=hid (Jbb ((HRq.out.keep hb11).more hb11.size));have HW11:=hid hW11.symm;clear hQ hown hcq hzq hb10 hW11 hb11 k6 HSp;go_wp2_with (first
      |(at_builtin;rw [HW11.out];refine Jaf rfl (.tmp 100) (.tmp 101) 47 rfl w10.heap.size 9 is _ 1 16 underlying47 his sz0 sz1 sz2 rfl (by omega) (.slice (some ⟨w10.heap.size,0,none⟩) 0 0) 0 [] rfl HO11.out Aq qs.length cq (qs.map Value.string) HZq.out rfl (by simp) HL11.out (Jba qs) (by simp only [maxLen];omega) (by omega) HB11.out.size ?_;intro vr w12 hown hgrow;rw [Nat.zero_add,List.nil_append] at hown;obtain⟨Ar,cr,rfl,_,_⟩:=tre.own_facts hown;have HB12:=hid (Jad HB11.out HO11.out hgrow (Nat.le_refl _) (Nat.le_refl _));have HO12:=hid hown;clear hown hgrow;have HL12:=hid (Jbb (((HIo.out.later (HB10.out.trans (HB12.out.mono HB10.out.size))).parts))))
      |(at_builtin;refine Jaf rfl (.tmp 102) (.tmp 103) 47 rfl w10.heap.size 9 is _ 1 16 underlying47 his sz0 sz1 sz2 rfl (by omega) (.slice Ar qs.length cr) qs.length (qs.map Value.string) rfl HO12.out Ap2 0 (cp - 1) ([].map Value.string) HIo.out.pnil rfl (by simp) HL12.out (Jba []) (by simp only [maxLen];omega) (by omega) HB12.out.size ?_;intro vm w13 hown hgrow;obtain⟨Am2,cm2,rfl,hcm2,hzm2⟩:=tre.own_facts hown;have HB13:=hid (HB10.out.trans ((Jad HB12.out HO12.out hgrow (Nat.le_refl _) (Nat.le_refl _)).mono HB10.out.size));have HIn:=hid (HC2.out Am2 cm2 w13 HB13.out (Jaz (N:=qs++[]) (by rw [List.map_append];exact hown)) (by rw [List.length_append];exact hcm2) (fun e=>by rw [List.length_append];exact hzm2 e));rw [List.length_append] at HIn;clear hown hgrow hcm2 hzm2)
      |fail)
    refine HIn.out.mono ?_;rintro e w2 ⟨⟨v,he,hv⟩,hbz⟩;obtain⟨B1,m1,e1,B2,m2,e2,kz,rfl⟩:=hv.shape;subst he;have HBz:=hid (HB9.out.trans ((HB13.out.trans (hbz.mono HB13.out.size)).mono HB9.out.size));have HP:=hid (hv.put HX.out HB1.out HBz.out);have hg2:=(HBz.out.block _ (lt_of_some HX.out)).trans HX.out;unfold bx3 at hg2;have z0:=Jab hg2 0;have z1:=Jab hg2 1;have z2:=Jab hg2 2;have d0:w2.cell? ⟨w.heap.size,0,none⟩=some (.slice none 0 0):=Jaa hg2 0;have d1:w2.cell? ⟨w.heap.size,1,none⟩=some (.slice none 0 0):=Jaa hg2 1;have d2:w2.cell? ⟨w.heap.size,2,none⟩=some (.int .i64 0):=Jaa hg2 2;clear hg2 hv hbz;go_wp2_with fail
    obtain⟨p0,p1,p2,HE⟩:=HP.out _ rfl;unfold set3 at p0 p1 p2 HE;exact bodyPost_ret (v:= .agg #[.slice B1 m1 e1,.slice B2 m2 e2,.int .i64 kz]) (by simp [results,results73,go_sem,p0,p1,p2]) rfl HE
   ·have HC2:Hid (∀(Ay:Option Addr) (cy:Nat) (W:World),Below W9.heap.size W9 W→heap.Row W W.heap.size Ay (qs++[])→(qs++[]).length≤cy→(Ay=none→(qs++[]).length=0∧cy=0)→
        Calls prog 73 #[.slice A R.length c,.slice none 0 0,.slice Ay (qs++[]).length cy,.bool true,.int .i64 (h':Int)] W (AtOut o W)):=hid fun Ay cy W hb h1 h2 h3=>by
      have h4:=HC.out none 0 Ay cy W hb;rw [hrt] at h4;rw [if_pos rfl] at h4;exact h4 (fun i s hs=>by simp at hs) (Nat.le_refl _) (fun _=>⟨rfl,rfl⟩) h1 h2 h3
    rw [hrt] at hby;clear HC hrt;go_upto_region 21 with fail
    clear g5 k0;go_wp2_with fail
    refine HSp.out.mono ?_;rintro e w10 ⟨hto,hb10⟩;rcases hto with⟨hno,_⟩ |⟨v,Q,hQ,rfl,hown⟩
    ·rw [HPa.out] at hno;cases hno
    obtain rfl:=HDi.out Q hQ;obtain⟨Aq,cq,rfl,hcq,hzq⟩:=tre.own_facts hown;have HRq:=hid (Jaz hown);have HZq:=hid hzq;have HB10:=hid hb10;have k7:w10.cell? ⟨b3,o3+6,none⟩=some (.string tx):=(hb10.cell (p:=⟨b3,o3+6,none⟩) hb3).trans k6;obtain⟨W11,hW11⟩:=words.nm (w10.alloc (.cells #[] 9));have hb11:Below w10.heap.size w10 W11:=words.b1 hW11;have HO11:Hid (W11.ownsRow w10.heap.size 9 1 (.slice (some ⟨w10.heap.size,0,none⟩) 0 0) 0 []):=hid (by rw [hW11];exact World.ownsRow_made w10 #[] 0 (Nat.le_refl _) (by decide) rfl);have HB11:=hid hb11;have HL11:=hid (Jbb ((HRq.out.keep hb11).more hb11.size));have HW11:=hid hW11.symm;clear hQ hown hcq hzq hb10 hW11 hb11 k6 HSp;go_wp2_with (first
      |(at_builtin;rw [HW11.out];refine Jaf rfl (.tmp 100) (.tmp 101) 47 rfl w10.heap.size 9 is _ 1 16 underlying47 his sz0 sz1 sz2 rfl (by omega) (.slice (some ⟨w10.heap.size,0,none⟩) 0 0) 0 [] rfl HO11.out Aq qs.length cq (qs.map Value.string) HZq.out rfl (by simp) HL11.out (Jba qs) (by simp only [maxLen];omega) (by omega) HB11.out.size ?_;intro vr w12 hown hgrow;rw [Nat.zero_add,List.nil_append] at hown;obtain⟨Ar,cr,rfl,_,_⟩:=tre.own_facts hown;have HB12:=hid (Jad HB11.out HO11.out hgrow (Nat.le_refl _) (Nat.le_refl _));have HO12:=hid hown;clear hown hgrow;have HL12:=hid (Jbb (((HIo.out.later (HB10.out.trans (HB12.out.mono HB10.out.size))).parts))))
      |(at_builtin;refine Jaf rfl (.tmp 102) (.tmp 103) 47 rfl w10.heap.size 9 is _ 1 16 underlying47 his sz0 sz1 sz2 rfl (by omega) (.slice Ar qs.length cr) qs.length (qs.map Value.string) rfl HO12.out Ap2 0 (cp - 1) ([].map Value.string) HIo.out.pnil rfl (by simp) HL12.out (Jba []) (by simp only [maxLen];omega) (by omega) HB12.out.size ?_;intro vm w13 hown hgrow;obtain⟨Am2,cm2,rfl,hcm2,hzm2⟩:=tre.own_facts hown;have HB13:=hid (HB10.out.trans ((Jad HB12.out HO12.out hgrow (Nat.le_refl _) (Nat.le_refl _)).mono HB10.out.size));have HIn:=hid (HC2.out Am2 cm2 w13 HB13.out (Jaz (N:=qs++[]) (by rw [List.map_append];exact hown)) (by rw [List.length_append];exact hcm2) (fun e=>by rw [List.length_append];exact hzm2 e));rw [List.length_append] at HIn;clear hown hgrow hcm2 hzm2)
      |fail)
    refine HIn.out.mono ?_;rintro e w2 ⟨⟨v,he,hv⟩,hbz⟩;obtain⟨B1,m1,e1,B2,m2,e2,kz,rfl⟩:=hv.shape;subst he;have HBz:=hid (HB9.out.trans ((HB13.out.trans (hbz.mono HB13.out.size)).mono HB9.out.size));have HP:=hid (hv.put HX.out HB1.out HBz.out);have hg2:=(HBz.out.block _ (lt_of_some HX.out)).trans HX.out;unfold bx3 at hg2;have z0:=Jab hg2 0;have z1:=Jab hg2 1;have z2:=Jab hg2 2;have d0:w2.cell? ⟨w.heap.size,0,none⟩=some (.slice none 0 0):=Jaa hg2 0;have d1:w2.cell? ⟨w.heap.size,1,none⟩=some (.slice none 0 0):=Jaa hg2 1;have d2:w2.cell? ⟨w.heap.size,2,none⟩=some (.int .i64 0):=Jaa hg2 2;clear hg2 hv hbz;go_wp2_with fail
    obtain⟨p0,p1,p2,HE⟩:=HP.out _ rfl;unfold set3 at p0 p1 p2 HE;exact bodyPost_ret (v:= .agg #[.slice B1 m1 e1,.slice B2 m2 e2,.int .i64 kz]) (by simp [results,results73,go_sem,p0,p1,p2]) rfl HE
  ·rw [List.length_cons]
   have g2:(0:Int)<(ps.length:Int)+1:=by omega
   rw [List.length_cons] at hpl;clear hcnd;rcases hrt:(tx.data.toList.head?==some 47) with _ |_
   ·have HC2:Hid (∀(Ay:Option Addr) (cy:Nat) (W:World),Below W9.heap.size W9 W→heap.Row W W.heap.size Ay (qs++(p2::ps))→(qs++(p2::ps)).length≤cy→(Ay=none→(qs++(p2::ps)).length=0∧cy=0)→
        Calls prog 73 #[.slice A R.length c,.slice An ns.length cn,.slice Ay (qs++(p2::ps)).length cy,.bool f,.int .i64 (h':Int)] W (AtOut o W)):=hid fun Ay cy W hb h1 h2 h3=>by
      have h4:=HC.out An cn Ay cy W hb;rw [hrt] at h4;rw [if_neg (by decide)] at h4;exact h4 ((HIo.out.later hb).names) HIo.out.nlen HIo.out.nnil h1 h2 h3
    rw [hrt] at hby;clear HC hrt;go_upto_region 21 with fail
    clear g5 k0;go_wp2_with fail
    refine HSp.out.mono ?_;rintro e w10 ⟨hto,hb10⟩;rcases hto with⟨hno,_⟩ |⟨v,Q,hQ,rfl,hown⟩
    ·rw [HPa.out] at hno;cases hno
    obtain rfl:=HDi.out Q hQ;obtain⟨Aq,cq,rfl,hcq,hzq⟩:=tre.own_facts hown;have HRq:=hid (Jaz hown);have HZq:=hid hzq;have HB10:=hid hb10;have k7:w10.cell? ⟨b3,o3+6,none⟩=some (.string tx):=(hb10.cell (p:=⟨b3,o3+6,none⟩) hb3).trans k6;obtain⟨W11,hW11⟩:=words.nm (w10.alloc (.cells #[] 9));have hb11:Below w10.heap.size w10 W11:=words.b1 hW11;have HO11:Hid (W11.ownsRow w10.heap.size 9 1 (.slice (some ⟨w10.heap.size,0,none⟩) 0 0) 0 []):=hid (by rw [hW11];exact World.ownsRow_made w10 #[] 0 (Nat.le_refl _) (by decide) rfl);have HB11:=hid hb11;have HL11:=hid (Jbb ((HRq.out.keep hb11).more hb11.size));have HW11:=hid hW11.symm;clear hQ hown hcq hzq hb10 hW11 hb11 k6 HSp;go_wp2_with (first
      |(at_builtin;rw [HW11.out];refine Jaf rfl (.tmp 100) (.tmp 101) 47 rfl w10.heap.size 9 is _ 1 16 underlying47 his sz0 sz1 sz2 rfl (by omega) (.slice (some ⟨w10.heap.size,0,none⟩) 0 0) 0 [] rfl HO11.out Aq qs.length cq (qs.map Value.string) HZq.out rfl (by simp) HL11.out (Jba qs) (by simp only [maxLen];omega) (by omega) HB11.out.size ?_;intro vr w12 hown hgrow;rw [Nat.zero_add,List.nil_append] at hown;obtain⟨Ar,cr,rfl,_,_⟩:=tre.own_facts hown;have HB12:=hid (Jad HB11.out HO11.out hgrow (Nat.le_refl _) (Nat.le_refl _));have HO12:=hid hown;clear hown hgrow;have HL12:=hid (Jbb (((HIo.out.later (HB10.out.trans (HB12.out.mono HB10.out.size))).parts))))
      |(at_builtin;refine Jaf rfl (.tmp 102) (.tmp 103) 47 rfl w10.heap.size 9 is _ 1 16 underlying47 his sz0 sz1 sz2 rfl (by omega) (.slice Ar qs.length cr) qs.length (qs.map Value.string) rfl HO12.out Ap2 (ps.length+1) (cp - 1) ((p2::ps).map Value.string) HIo.out.pnil rfl (by simp) HL12.out (Jba (p2::ps)) (by simp only [maxLen];omega) (by omega) HB12.out.size ?_;intro vm w13 hown hgrow;obtain⟨Am2,cm2,rfl,hcm2,hzm2⟩:=tre.own_facts hown;have HB13:=hid (HB10.out.trans ((Jad HB12.out HO12.out hgrow (Nat.le_refl _) (Nat.le_refl _)).mono HB10.out.size));have HIn:=hid (HC2.out Am2 cm2 w13 HB13.out (Jaz (N:=qs++(p2::ps)) (by rw [List.map_append];exact hown)) (by rw [List.length_append];exact hcm2) (fun e=>by rw [List.length_append];exact hzm2 e));rw [List.length_append] at HIn;clear hown hgrow hcm2 hzm2)
      |fail)
    refine HIn.out.mono ?_;rintro e w2 ⟨⟨v,he,hv⟩,hbz⟩;obtain⟨B1,m1,e1,B2,m2,e2,kz,rfl⟩:=hv.shape;subst he;have HBz:=hid (HB9.out.trans ((HB13.out.trans (hbz.mono HB13.out.size)).mono HB9.out.size));have HP:=hid (hv.put HX.out HB1.out HBz.out);have hg2:=(HBz.out.block _ (lt_of_some HX.out)).trans HX.out;unfold bx3 at hg2;have z0:=Jab hg2 0;have z1:=Jab hg2 1;have z2:=Jab hg2 2;have d0:w2.cell? ⟨w.heap.size,0,none⟩=some (.slice none 0 0):=Jaa hg2 0;have d1:w2.cell? ⟨w.heap.size,1,none⟩=some (.slice none 0 0):=Jaa hg2 1;have d2:w2.cell? ⟨w.heap.size,2,none⟩=some (.int .i64 0):=Jaa hg2 2;clear hg2 hv hbz;go_wp2_with fail
    obtain⟨p0,p1,p2,HE⟩:=HP.out _ rfl;unfold set3 at p0 p1 p2 HE;exact bodyPost_ret (v:= .agg #[.slice B1 m1 e1,.slice B2 m2 e2,.int .i64 kz]) (by simp [results,results73,go_sem,p0,p1,p2]) rfl HE
   ·have HC2:Hid (∀(Ay:Option Addr) (cy:Nat) (W:World),Below W9.heap.size W9 W→heap.Row W W.heap.size Ay (qs++(p2::ps))→(qs++(p2::ps)).length≤cy→(Ay=none→(qs++(p2::ps)).length=0∧cy=0)→
        Calls prog 73 #[.slice A R.length c,.slice none 0 0,.slice Ay (qs++(p2::ps)).length cy,.bool f,.int .i64 (h':Int)] W (AtOut o W)):=hid fun Ay cy W hb h1 h2 h3=>by
      have h4:=HC.out none 0 Ay cy W hb;rw [hrt] at h4;rw [if_pos rfl] at h4;exact h4 (fun i s hs=>by simp at hs) (Nat.le_refl _) (fun _=>⟨rfl,rfl⟩) h1 h2 h3
    rw [hrt] at hby;clear HC hrt;go_upto_region 21 with fail
    clear g5 k0;go_wp2_with fail
    refine HSp.out.mono ?_;rintro e w10 ⟨hto,hb10⟩;rcases hto with⟨hno,_⟩ |⟨v,Q,hQ,rfl,hown⟩
    ·rw [HPa.out] at hno;cases hno
    obtain rfl:=HDi.out Q hQ;obtain⟨Aq,cq,rfl,hcq,hzq⟩:=tre.own_facts hown;have HRq:=hid (Jaz hown);have HZq:=hid hzq;have HB10:=hid hb10;have k7:w10.cell? ⟨b3,o3+6,none⟩=some (.string tx):=(hb10.cell (p:=⟨b3,o3+6,none⟩) hb3).trans k6;obtain⟨W11,hW11⟩:=words.nm (w10.alloc (.cells #[] 9));have hb11:Below w10.heap.size w10 W11:=words.b1 hW11;have HO11:Hid (W11.ownsRow w10.heap.size 9 1 (.slice (some ⟨w10.heap.size,0,none⟩) 0 0) 0 []):=hid (by rw [hW11];exact World.ownsRow_made w10 #[] 0 (Nat.le_refl _) (by decide) rfl);have HB11:=hid hb11;have HL11:=hid (Jbb ((HRq.out.keep hb11).more hb11.size));have HW11:=hid hW11.symm;clear hQ hown hcq hzq hb10 hW11 hb11 k6 HSp;go_wp2_with (first
      |(at_builtin;rw [HW11.out];refine Jaf rfl (.tmp 100) (.tmp 101) 47 rfl w10.heap.size 9 is _ 1 16 underlying47 his sz0 sz1 sz2 rfl (by omega) (.slice (some ⟨w10.heap.size,0,none⟩) 0 0) 0 [] rfl HO11.out Aq qs.length cq (qs.map Value.string) HZq.out rfl (by simp) HL11.out (Jba qs) (by simp only [maxLen];omega) (by omega) HB11.out.size ?_;intro vr w12 hown hgrow;rw [Nat.zero_add,List.nil_append] at hown;obtain⟨Ar,cr,rfl,_,_⟩:=tre.own_facts hown;have HB12:=hid (Jad HB11.out HO11.out hgrow (Nat.le_refl _) (Nat.le_refl _));have HO12:=hid hown;clear hown hgrow;have HL12:=hid (Jbb (((HIo.out.later (HB10.out.trans (HB12.out.mono HB10.out.size))).parts))))
      |(at_builtin;refine Jaf rfl (.tmp 102) (.tmp 103) 47 rfl w10.heap.size 9 is _ 1 16 underlying47 his sz0 sz1 sz2 rfl (by omega) (.slice Ar qs.length cr) qs.length (qs.map Value.string) rfl HO12.out Ap2 (ps.length+1) (cp - 1) ((p2::ps).map Value.string) HIo.out.pnil rfl (by simp) HL12.out (Jba (p2::ps)) (by simp only [maxLen];omega) (by omega) HB12.out.size ?_;intro vm w13 hown hgrow;obtain⟨Am2,cm2,rfl,hcm2,hzm2⟩:=tre.own_facts hown;have HB13:=hid (HB10.out.trans ((Jad HB12.out HO12.out hgrow (Nat.le_refl _) (Nat.le_refl _)).mono HB10.out.size));have HIn:=hid (HC2.out Am2 cm2 w13 HB13.out (Jaz (N:=qs++(p2::ps)) (by rw [List.map_append];exact hown)) (by rw [List.length_append];exact hcm2) (fun e=>by rw [List.length_append];exact hzm2 e));rw [List.length_append] at HIn;clear hown hgrow hcm2 hzm2)
      |fail)
    refine HIn.out.mono ?_;rintro e w2 ⟨⟨v,he,hv⟩,hbz⟩;obtain⟨B1,m1,e1,B2,m2,e2,kz,rfl⟩:=hv.shape;subst he;have HBz:=hid (HB9.out.trans ((HB13.out.trans (hbz.mono HB13.out.size)).mono HB9.out.size));have HP:=hid (hv.put HX.out HB1.out HBz.out);have hg2:=(HBz.out.block _ (lt_of_some HX.out)).trans HX.out;unfold bx3 at hg2;have z0:=Jab hg2 0;have z1:=Jab hg2 1;have z2:=Jab hg2 2;have d0:w2.cell? ⟨w.heap.size,0,none⟩=some (.slice none 0 0):=Jaa hg2 0;have d1:w2.cell? ⟨w.heap.size,1,none⟩=some (.slice none 0 0):=Jaa hg2 1;have d2:w2.cell? ⟨w.heap.size,2,none⟩=some (.int .i64 0):=Jaa hg2 2;clear hg2 hv hbz;go_wp2_with fail
    obtain⟨p0,p1,p2,HE⟩:=HP.out _ rfl;unfold set3 at p0 p1 p2 HE;exact bodyPost_ret (v:= .agg #[.slice B1 m1 e1,.slice B2 m2 e2,.int .i64 kz]) (by simp [results,results73,go_sem,p0,p1,p2]) rfl HE

theorem Jsu {R:List Nd} (hg:∀t∈R,allB t=true) (hl:R.length≤64) {f:Bool} {ns ps:List ByteArray} {h:Nat} {o:AtO} (hL:Leads R f ns ps h o):AlC R f ns ps h o:=by
 induction hL with
 |done a=>exact Jr4 hg hl a
 |up _ ih=>exact Jtt ih
 |none n a e s=>exact Jed hg hl n a e (.none s rfl)
 |dir n a e s k _ ih=>exact Jed hg hl n a e (.dir _ _ s k ih)
 |loop n a e s k c=>exact Jed hg hl n a e (.loop _ _ s k c rfl rfl)
 |hop n a e s k c p _ ih=>
  exact Jed hg hl n a e (.hop _ _ _ _ s k c rfl p (Jcv (((a.good (Good.root hg)).seen e).one (by rw [s];exact List.mem_cons_self ..)) k).1 ih)
 |not n a e s k c l=>exact Jed hg hl n a e (.not _ _ s k c l rfl)
 |leaf n a e s k c=>exact Jed hg hl n a e (.leaf _ _ s k c rfl rfl)
theorem Jih {R:List Nd} {f:Bool} (hg:∀t∈R,allB t=true) {h:Nat} {ps:List ByteArray} (hh:∀h',h=h'+1→∀ps ns,∃o,Leads R f ns ps h' o) (hp:∀ns,∃o,Leads R f ns ps h o) (p:ByteArray) (ns:List ByteArray):∃o,Leads R f ns (p::ps) h o:=by
 by_cases hd:p=dd
 ·subst hd
  obtain⟨o,ho⟩:=hp (ns.take (ns.length - 1));exact⟨o,.up ho⟩
 obtain⟨D,hD⟩:=Along.some (ns:=ns) (Good.root hg);have hgd:=hD.good (Good.root hg);obtain⟨Q,hQ⟩:=EntN.some (s:=p) (D:=D) fun d hd=>(hgd.asc d hd).2;rcases hS:seenOf Q with _ |⟨d,S⟩
 ·exact⟨_,.none hd hD hQ hS⟩
 by_cases h2:d.K=2
 ·obtain⟨o,ho⟩:=hp (ns++[p])
  exact⟨o,.dir hd hD hQ hS h2 ho⟩
 by_cases h3:d.K=3∧(f=true∨0<ps.length)
 ·rcases h with _ |h
  ·exact⟨_,.loop hd hD hQ hS h3.1 h3.2⟩
  ·obtain⟨_,qs,hq⟩:=Jcv ((hgd.seen hQ).one (d:=d) (by rw [hS];exact List.mem_cons_self ..)) h3.1
   obtain⟨o,ho⟩:=hh h rfl (qs++ps) (if (d.T.data.toList.head?==Option.some 47)=true then [] else ns);exact⟨o,.hop hd hD hQ hS h3.1 h3.2 hq ho⟩
 rcases ps with _ |⟨q,ps⟩
 ·exact⟨_,.leaf hd hD hQ hS h2 h3⟩
 ·exact⟨_,.not hd hD hQ hS h2 h3 (by simp)⟩
theorem Jgm {R:List Nd} {f:Bool} (hg:∀t∈R,allB t=true):∀(h:Nat) (ps ns:List ByteArray),∃o,Leads R f ns ps h o:=by
 intro h
 induction h with
 |zero=>
  intro ps
  induction ps with
  |nil=>intro ns;obtain⟨D,hD⟩:=Along.some (ns:=ns) (Good.root hg);exact⟨_,.done hD⟩
  |cons p ps ih=>intro ns;exact Jih hg (fun h' e=>by cases e) ih p ns
 |succ h ihh=>
  intro ps
  induction ps with
  |nil=>intro ns;obtain⟨D,hD⟩:=Along.some (ns:=ns) (Good.root hg);exact⟨_,.done hD⟩
  |cons p ps ih=>intro ns;exact Jih hg (fun h' e=>by injection e with e;subst e;exact ihh) ih p ns
def Goes (R:List Nd) (f:Bool) (s:ByteArray) (o:AtO):Prop:=
 (parts s.data.toList=none∧o= .err 1)∨∃ps:List ByteArray,parts s.data.toList=some (ps.map fun y=>y.data.toList)∧Leads R f [] ps 40 o
theorem Goes.some {R:List Nd} {f:Bool} (hg:∀t∈R,allB t=true) (s:ByteArray):∃o,Goes R f s o:=by
 rcases hp:parts s.data.toList with _ |ls
 ·exact⟨_,.inl ⟨hp,rfl⟩⟩
 ·have hq:ls=(ls.map fun l=>(⟨⟨l⟩⟩:ByteArray)).map fun y=>y.data.toList:=by
   rw [List.map_map];exact (List.map_id' ls).symm
  obtain⟨o,ho⟩:=Jgm (f:=f) hg 40 (ls.map fun l=>(⟨⟨l⟩⟩:ByteArray)) [];exact⟨o,.inr ⟨_,by rw [hp,←hq],ho⟩⟩
theorem Goes.uniq {R:List Nd} {f:Bool} (hg:∀t∈R,allB t=true) {s:ByteArray} {o o':AtO} (h:Goes R f s o) (h':Goes R f s o'):o=o':=by
 rcases h with⟨h1,h2⟩ |⟨ps,h1,h2⟩
 ·rcases h' with⟨_,h2'⟩ |⟨ps',h1',_⟩
  ·rw [h2,h2']
  ·rw [h1] at h1';cases h1'
 ·rcases h' with⟨h1',_⟩ |⟨ps',h1',h2'⟩
  ·rw [h1] at h1';cases h1'
  ·rw [h1] at h1'
   injection h1' with e;obtain rfl:=Jc0 e;exact h2.uniq hg h2'
theorem Ji7 {R:List Nd} (hg:∀t∈R,allB t=true) (hl:R.length≤64) (A:Option Addr) (c:Nat) (rs:Nat→Raw) (s:ByteArray) (f:Bool) (o:AtO) (w:World) (hT:Trees w w.heap.size A R rs) (hs:s.size≤1000000) (ho:Goes R f s o):
  Calls prog 35 #[.slice A R.length c,.string s,.bool f] w (AtOut o w):=by
 obtain⟨W1,hW1⟩:=words.nm (w.alloc (bx3 none none 0 0 0 0 0));have hb1:=words.b1 hW1;have hx1:W1.heap[w.heap.size]?=some (bx3 none none 0 0 0 0 0):=by rw [hW1];exact new3 w
 have HT:=hid (hT.later hb1);have HX:=hid hx1;have HB1:=hid hb1;have HSp:=hid (Jcj s W1 (by omega));have HG:=hid ho;have HAl:=hid fun (ps:List ByteArray) (hL:Leads R f [] ps 40 o)=>Jsu hg hl hL;unfold bx3 at hW1;have HW1:=hid hW1;clear hT hx1 hb1 hW1 ho hg;go_enter func35,ntmps35
 go_upto_region 1 with fail
 rw [←HW1.out];clear HW1;go_wp2_with fail
 refine HSp.out.mono ?_;rintro e w2 ⟨(⟨hno,rfl⟩ |⟨v,Q,hQ,rfl,hown⟩),hb2⟩
 ·have ho2:o= .err 1:=by
   rcases HG.out with⟨_,h⟩ |⟨ps,h,_⟩
   ·exact h
   ·rw [hno] at h;cases h
  subst ho2;have HP:=hid ((show AtIn (.err 1) (.agg #[.slice none 0 0,.slice none 0 0,.int .i64 1]) w2 from rfl).put HX.out HB1.out hb2);have hg2:=(hb2.block _ (lt_of_some HX.out)).trans HX.out;unfold bx3 at hg2;have z0:=Jab hg2 0;have z1:=Jab hg2 1;have z2:=Jab hg2 2;have d0:w2.cell? ⟨w.heap.size,0,none⟩=some (.slice none 0 0):=Jaa hg2 0;have d1:w2.cell? ⟨w.heap.size,1,none⟩=some (.slice none 0 0):=Jaa hg2 1;have d2:w2.cell? ⟨w.heap.size,2,none⟩=some (.int .i64 0):=Jaa hg2 2;clear hg2 hb2 hno;go_wp2_with fail
  obtain⟨p0,p1,p2,HE⟩:=HP.out _ rfl;unfold set3 at p0 p1 p2 HE;exact bodyPost_ret (v:= .agg #[.slice none 0 0,.slice none 0 0,.int .i64 1]) (by simp [results,results35,go_sem,p0,p1,p2]) rfl HE
 ·have hL:Leads R f [] Q 40 o:=by
   rcases HG.out with⟨h,_⟩ |⟨ps,h,hL⟩
   ·rw [hQ] at h;cases h
   ·rw [hQ] at h
    injection h with h;rw [Jc0 h];exact hL
  have hpl:=Jb4 hQ;rw [List.length_map] at hpl;obtain⟨Aq,cq,rfl,hcq,hzq⟩:=tre.own_facts hown;have HB2:=hid hb2;have HC:Hid (Calls prog 73 #[.slice A R.length c,.slice none 0 0,.slice Aq Q.length cq,.bool f,.int .i64 40] w2 (AtOut o w2)):=hid
   (HAl.out Q hL A c rs none 0 Aq cq w2 ⟨HT.out.later hb2,fun i s h=>by simp at h,Nat.le_refl _,fun _=>⟨rfl,rfl⟩,Jaz hown,hcq,hzq⟩ (by unfold Few;simp only [List.length_nil];omega))
  clear hQ hL hpl hown hcq hzq hb2;go_wp2_with fail
  refine HC.out.mono ?_;rintro e w3 ⟨⟨v,he,hv⟩,hbz⟩;obtain⟨B1,m1,e1,B2,m2,e2,kz,rfl⟩:=hv.shape;subst he;have HP:=hid (hv.put HX.out HB1.out (HB2.out.trans (hbz.mono HB2.out.size)));have hg2:=((HB2.out.trans (hbz.mono HB2.out.size)).block _ (lt_of_some HX.out)).trans HX.out;unfold bx3 at hg2;have z0:=Jab hg2 0;have z1:=Jab hg2 1;have z2:=Jab hg2 2;have d0:w3.cell? ⟨w.heap.size,0,none⟩=some (.slice none 0 0):=Jaa hg2 0;have d1:w3.cell? ⟨w.heap.size,1,none⟩=some (.slice none 0 0):=Jaa hg2 1;have d2:w3.cell? ⟨w.heap.size,2,none⟩=some (.int .i64 0):=Jaa hg2 2;clear hg2 hv hbz;go_wp2_with fail
  obtain⟨p0,p1,p2,HE⟩:=HP.out _ rfl;unfold set3 at p0 p1 p2 HE;exact bodyPost_ret (v:= .agg #[.slice B1 m1 e1,.slice B2 m2 e2,.int .i64 kz]) (by simp [results,results35,go_sem,p0,p1,p2]) rfl HE
end Go.Proofs.YtkjpgheealfedaaGreatDoor.wlk
