/- What the reference's Dirs answers: of some directories those up to the first opaque one. Condition: they lie in memory. What the reference's Level answers: which directory, from above, is the first one that has a name; or -1. Condition: they lie in memory. What the reference's Entries answers: of directories that are one what each of them has by a name, from above. Condition: they lie in memory. What the reference's Seen answers: what is left of a name. Condition: the directories lie in memory. How the spots of a place hang together with the directories that are one: what lies where in a tree's table. Plain words, no program. What is seen by a name in a place is what the document sees in its directories: both sides from the same entries. Conditions: the stack lies in memory, and its trees may be. -/
import Derived.Test.YtckjkndegjklnaaGreatDoorJK
import Derived.Test.YtckjkndegjklnaaGreatDoorJL
namespace Go.Proofs.YtckjkndegjklnaaGreatDoor.seen
set_option maxRecDepth 100000
open Go.RowKit words ext name tre stk

def dirsN:List Nd→Nat
 |[]=>0
 |x::T=>if x.O=true then 1 else dirsN T+1
theorem Jix:∀T:List Nd,dirsN T≤T.length
 |[]=>Nat.le_refl _
 |x::T=>by
  have:=Jix T
  rw [dirsN,List.length_cons]
  split<;>omega


def Has (x:Nd) (s:ByteArray) (o:Option Nd):Prop:=(∃(i:Nat) (y:Nd),x.N[i]?=some s∧x.I[i]?=some y∧o=some y)∨(o=none∧∀j:Nat,x.N[j]?≠some s)
def EntN (s:ByteArray):List Nd→List Nd→Prop
 |[],Q=>Q=[]
 |x::T,Q=>∃o Q',Has x s o∧Q=o.toList++Q'∧EntN s T Q'
theorem EntN.snoc {s:ByteArray} {x:Nd} {o:Option Nd} (hl:Has x s o):∀{T Q:List Nd},EntN s T Q→EntN s (T++[x]) (Q++o.toList)
 |[],Q,h=>by
  have h':Q=[]:=h
  subst h'
  exact⟨o,[],hl,by simp,rfl⟩
 |y::T,Q,⟨o',Q',h1,h2,h3⟩=>⟨o',_,h1,by rw [h2,List.append_assoc],EntN.snoc hl h3⟩

def headN:List Nd→Nat
 |[]=>0
 |x::T=>if x.K=2 then headN T+1 else 0
def seenOf (Q:List Nd):List Nd:=match Q with
 |[]=>[]
 |x::_=>if x.K=4 then [] else if x.K=2 then (Q.take (headN Q)).take (dirsN (Q.take (headN Q))) else Q.take 1

mutual
theorem Ji5:∀(n x:Nd) (k:Nat),(preN n)[k]?=some x→∃M,(preN n).drop k=preN x++M
 | .mk K O N I S E T,x,k,h=>by
  rcases k with _ |k
  ·rw [Jct] at h
   obtain rfl:Nd.mk K O N I S E T=x:=by simpa using h
   exact⟨[],by rw [List.drop_zero,List.append_nil]⟩
  ·rw [Jct] at h ⊢
   rw [List.drop_succ_cons]
   exact Jjf I x k (by rw [List.getElem?_cons_succ] at h;exact h)
theorem Jjf:∀(L:List Nd) (x:Nd) (k:Nat),(preL L)[k]?=some x→∃M,(preL L).drop k=preN x++M
 |[],x,k,h=>by rw [Jc1] at h;simp at h
 |y::L,x,k,h=>by
  rw [Ja2] at h ⊢
  by_cases hk:k<(preN y).length
  ·rw [List.getElem?_append_left hk] at h
   obtain⟨M,hM⟩:=Ji5 y x k h
   exact⟨M++preL L,by rw [List.drop_append_of_le_length (Nat.le_of_lt hk),hM,List.append_assoc]⟩
  ·rw [List.getElem?_append_right (by omega)] at h
   obtain⟨M,hM⟩:=Jjf L x _ h
   refine⟨M,?_⟩
   rw [List.drop_append,List.drop_eq_nil_of_le (by omega),List.nil_append,hM]
end
theorem Jkd:∀{L:List Nd} {i:Nat} {y:Nd},L[i]?=some y→(preL L)[countL (L.take i)]?=some y
 |[],i,y,h=>by simp at h
 |x::L,0,y,h=>by
  obtain rfl:x=y:=by simpa using h
  rw [List.take_zero,Ja6,Ja2,Jct]
  rfl
 |x::L,i+1,y,h=>by
  rw [List.take_succ_cons,Jaj,Ja2,List.getElem?_append_right (by rw [Ja8];omega),Ja8,Nat.add_sub_cancel_left]
  exact Jkd (by simpa using h)
theorem Jf2 {n x y:Nd} {k i:Nat} (hx:(preN n)[k]?=some x) (hy:x.I[i]?=some y):(preN n)[k+1+countL (x.I.take i)]?=some y:=by
 obtain⟨M,hM⟩:=Ji5 n x k hx
 have h1:=Jkd hy
 have h2:((preN n).drop k)[1+countL (x.I.take i)]?=some y:=by
  have hlt:countL (x.I.take i)<(preL x.I).length:=(List.getElem?_eq_some_iff.1 h1).1
  rw [hM,Jct,Nat.add_comm,List.cons_append,List.getElem?_cons_succ,List.getElem?_append_left hlt]
  exact h1
 rw [List.getElem?_drop] at h2
 rw [←h2]
 congr 1
 omega
def At (R:List Nd) (x:Nat×Nat) (d:Nd):Prop:=∃t,R[x.1]?=some t∧(preN t)[x.2]?=some d
def tabs (R:List Nd):List (List Ent):=R.map (flatN 0)
theorem Ja9 (R:List Nd):(tabs R).length=R.length:=by unfold tabs;rw [List.length_map]
theorem Jdk {R:List Nd} {i:Nat} {t:Nd} (h:R[i]?=some t):(tabs R)[i]?=some (flatN 0 t):=by unfold tabs;rw [List.getElem?_map,h];rfl
theorem At.ent {R:List Nd} {x:Nat×Nat} {d:Nd} (h:At R x d):entAt (tabs R) x=some (entOf x.2 d):=by
 obtain⟨t,h1,h2⟩:=h
 unfold entAt
 rw [Jdk h1]
 exact Jbx h2
theorem At.one {R:List Nd} {x:Nat×Nat} {d:Nd} (h:At R x d) (hall:∀t∈R,allB t=true):oneB d=true:=by
 obtain⟨t,h1,h2⟩:=h
 exact Jft ((Jh4 t d (List.mem_of_getElem? h2)).2.2 (hall t (List.mem_of_getElem? h1)))
theorem Jly {R:List Nd} {E:List Ent} {e:Ent} (hE:E∈tabs R) (he:e∈E):∃t k x,t∈R∧E=flatN 0 t∧(preN t)[k]?=some x∧e=entOf k x:=by
 unfold tabs at hE
 obtain⟨t,ht,rfl⟩:=List.mem_map.1 hE
 obtain⟨k,hk⟩:=List.mem_iff_getElem?.1 he
 have hlt:k<(preN t).length:=by
  rw [Ja8,←Jdr 0 t]
  exact (List.getElem?_eq_some_iff.1 hk).1
 have hx:=List.getElem?_eq_getElem hlt
 refine⟨t,k,_,ht,rfl,hx,?_⟩
 rw [Jbx hx] at hk
 exact (Option.some.inj hk).symm
theorem Ji9 {R:List Nd} (hall:∀t∈R,allB t=true):∀E∈tabs R,∀e∈E,Asc e.x.N∧e.ids.length=e.x.N.length:=fun E hE e he=>by
 obtain⟨t,k,x,ht,rfl,hx,rfl⟩:=Jly hE he
 obtain⟨h1,h2,_⟩:=Jbc (Jft ((Jh4 t x (List.mem_of_getElem? hx)).2.2 (hall t ht)))
 have hN:(entOf k x).x.N=x.N:=Jfo x
 rw [hN]
 exact⟨h1,by rw [h2];exact Ja1 _ _⟩
theorem Jkf {R:List Nd}:∀E∈tabs R,∀e∈E,∀(i:Nat) id,e.ids[i]?=some id→∃e',E[id]?=some e':=fun E hE e he i id hi=>by
 obtain⟨t,k,x,ht,rfl,hx,rfl⟩:=Jly hE he
 have hl:i<x.I.length:=by
  have:=(List.getElem?_eq_some_iff.1 hi).1
  rwa [show (entOf k x).ids.length=x.I.length from Ja1 _ _] at this
 have h2:(entOf k x).ids[i]?=some (k+1+countL (x.I.take i)):=Jc9 hl
 rw [h2] at hi
 obtain rfl:=Option.some.inj hi
 exact⟨_,Jbx (Jf2 hx (List.getElem?_eq_getElem hl))⟩
def Ats (R:List Nd):List (Nat×Nat)→List Nd→Prop
 |[],[]=>True
 |x::P,d::D=>At R x d∧Ats R P D
 |_,_=>False
theorem Ats.length {R:List Nd}:∀{P:List (Nat×Nat)} {D:List Nd},Ats R P D→P.length=D.length
 |[],[],_=>rfl
 |x::P,d::D,h=>by rw [List.length_cons,List.length_cons,h.2.length]
 |[],_::_,h=>h.elim
 |_::_,[],h=>h.elim
theorem Ats.at_ {R:List Nd}:∀{P:List (Nat×Nat)} {D:List Nd},Ats R P D→∀{i:Nat} {x:Nat×Nat},P[i]?=some x→∃d,D[i]?=some d∧At R x d
 |[],[],_,i,x,hx=>by simp at hx
 |y::P,d::D,h,0,x,hx=>by
  obtain rfl:y=x:=by simpa using hx
  exact⟨d,rfl,h.1⟩
 |y::P,d::D,h,i+1,x,hx=>by
  obtain⟨d',h1,h2⟩:=h.2.at_ (i:=i) (by simpa using hx)
  exact⟨d',by simpa using h1,h2⟩
 |[],_::_,h,_,_,_=>h.elim
 |_::_,[],h,_,_,_=>h.elim
theorem Ats.take {R:List Nd}:∀{P:List (Nat×Nat)} {D:List Nd},Ats R P D→∀n:Nat,Ats R (P.take n) (D.take n)
 |[],[],_,n=>by rw [List.take_nil,List.take_nil];trivial
 |y::P,d::D,h,0=>by rw [List.take_zero,List.take_zero];trivial
 |y::P,d::D,h,n+1=>by rw [List.take_succ_cons,List.take_succ_cons];exact⟨h.1,h.2.take n⟩
 |[],_::_,h,_=>h.elim
 |_::_,[],h,_=>h.elim
theorem Ats.all {R:List Nd} {P:List (Nat×Nat)} {D:List Nd} (h:Ats R P D):∀x∈P,∃e,entAt (tabs R) x=some e:=fun x hx=>by
 obtain⟨i,hi⟩:=List.mem_iff_getElem?.1 hx
 obtain⟨d,_,h2⟩:=h.at_ hi
 exact⟨_,h2.ent⟩
theorem Ats.mem {R:List Nd}:∀{P:List (Nat×Nat)} {D:List Nd},Ats R P D→∀d∈D,∃x∈P,At R x d
 |[],[],_,d,hd=>by cases hd
 |y::P,c::D,h,d,hd=>by
  rcases List.mem_cons.1 hd with rfl |hd
  ·exact⟨y,List.mem_cons_self ..,h.1⟩
  ·obtain⟨x,hx,ha⟩:=h.2.mem d hd
   exact⟨x,List.mem_cons_of_mem _ hx,ha⟩
 |[],_::_,h,_,_=>h.elim
 |_::_,[],h,_,_=>h.elim
def Up (P:List (Nat×Nat)):Prop:=(P.map Prod.fst).Pairwise (·<·)
theorem Up.sub {P Q:List (Nat×Nat)} (h:Up P) (hs:(Q.map Prod.fst).Sublist (P.map Prod.fst)):Up Q:=List.Pairwise.sublist hs h
theorem Up.take {P:List (Nat×Nat)} (h:Up P) (n:Nat):Up (P.take n):=h.sub ((List.take_sublist n P).map _)
theorem Up.lt {P:List (Nat×Nat)} (h:Up P) {i j:Nat} {x y:Nat×Nat} (hij:i<j) (hx:P[i]?=some x) (hy:P[j]?=some y):x.1<y.1:=by
 obtain⟨hi,rfl⟩:=List.getElem?_eq_some_iff.1 hx
 obtain⟨hj,rfl⟩:=List.getElem?_eq_some_iff.1 hy
 have:=List.pairwise_iff_getElem.1 h i j (by rw [List.length_map];exact hi) (by rw [List.length_map];exact hj) hij
 rwa [List.getElem_map,List.getElem_map] at this
def Top (P:List (Nat×Nat)) (D:List Nd) (s:ByteArray) (x:Nat×Nat):Prop:=
 ∃(k:Nat) (p:Nat×Nat) (y:Nd) (i:Nat),P[k]?=some p∧x=(p.1,p.2+1+countL (y.I.take i))∧D[k]?=some y∧y.N[i]?=some s∧∀z∈D.take k,∀j:Nat,z.N[j]?≠some s
theorem join {R:List Nd} {s:ByteArray} (hall:∀t∈R,allB t=true):∀{P:List (Nat×Nat)} {D:List Nd} {Q:List (Nat×Nat)} {Q':List Nd},Ats R P D→EntsOf (tabs R) s P Q→EntN s D Q'→
  Ats R Q Q'∧(Q.map Prod.fst).Sublist (P.map Prod.fst)∧(∀q∈Q',∃d∈D,∃i:Nat,d.I[i]?=some q∧d.N[i]?=some s)∧(∀x,Q[0]?=some x→Top P D s x)
 |[],[],Q,Q',_,h1,h2=>by
  have h1':Q=[]:=h1
  have h2':Q'=[]:=h2
  subst h1' h2'
  exact⟨trivial,List.Sublist.refl _,fun q hq=>(by cases hq),fun x hx=>(by simp at hx)⟩
 |y::P,d::D,Q,Q',h,⟨e,o,Q1,he,hl,hQ,hr⟩,⟨o',Q1',hh,hQ',hr'⟩=>by
  obtain⟨i1,i2,i3,i4⟩:=join hall h.2 hr hr'
  have hent:=h.1.ent
  rw [he] at hent
  obtain rfl:=Option.some.inj hent
  have hN:(entOf y.2 d).x.N=d.N:=Jfo d
  have h1:=Jbc (h.1.one hall)
  unfold Lk at hl
  rw [hN] at hl
  subst hQ hQ'
  rcases hl with⟨i,id,a1,a2,rfl⟩ |⟨rfl,a1⟩
  ·rcases hh with⟨i',z,b1,b2,rfl⟩ |⟨rfl,b1⟩
   ·obtain rfl:=h1.1.one a1 b1
    have hlt:i<d.I.length:=(List.getElem?_eq_some_iff.1 b2).1
    have h2:(entOf y.2 d).ids[i]?=some (y.2+1+countL (d.I.take i)):=Jc9 hlt
    rw [h2] at a2
    obtain rfl:=Option.some.inj a2
    obtain⟨t,c1,c2⟩:=h.1
    refine⟨⟨⟨t,c1,Jf2 c2 b2⟩,i1⟩,?_,fun q hq=>?_,fun x hx=>?_⟩
    ·simpa using i2
    ·have hq':q=z∨q∈Q1':=by simpa using hq
     rcases hq' with rfl |hq'
     ·exact⟨d,List.mem_cons_self ..,i,b2,b1⟩
     ·obtain⟨d',e1,e2⟩:=i3 q hq'
      exact⟨d',List.mem_cons_of_mem _ e1,e2⟩
    ·have hx':(y.1,y.2+1+countL (d.I.take i))=x:=by simpa using hx
     subst hx'
     exact⟨0,y,d,i,rfl,rfl,rfl,b1,fun z hz=>by simp at hz⟩
   ·exact (b1 i a1).elim
  ·rcases hh with⟨i',z,b1,b2,rfl⟩ |⟨rfl,b1⟩
   ·exact (a1 i' b1).elim
   ·refine⟨i1,?_,fun q hq=>?_,fun x hx=>?_⟩
    ·exact List.Sublist.cons _ i2
    ·obtain⟨d',e1,e2⟩:=i3 q (by simpa using hq)
     exact⟨d',List.mem_cons_of_mem _ e1,e2⟩
    ·obtain⟨k,p,z,i,g1,g2,g3,g4,g5⟩:=i4 x (by simpa using hx)
     refine⟨k+1,p,z,i,by simpa using g1,g2,by simpa using g3,g4,fun c hc=>?_⟩
     rw [List.take_succ_cons] at hc
     rcases List.mem_cons.1 hc with rfl |hc
     ·exact b1
     ·exact g5 c hc
 |[],_::_,_,_,h,_,_=>h.elim
 |_::_,[],_,_,h,_,_=>h.elim
theorem EntN.uniq {s:ByteArray}:∀{D Q Q':List Nd},(∀d∈D,Asc d.N)→EntN s D Q→EntN s D Q'→Q=Q'
 |[],Q,Q',_,h1,h2=>by
  have h1':Q=[]:=h1
  have h2':Q'=[]:=h2
  rw [h1',h2']
 |d::D,Q,Q',ha,⟨o,Q1,hh,hQ,hr⟩,⟨o',Q1',hh',hQ',hr'⟩=>by
  have ih:=EntN.uniq (fun d hd=>ha d (List.mem_cons_of_mem _ hd)) hr hr'
  subst hQ hQ' ih
  congr 1
  rcases hh with⟨i,y,a1,a2,rfl⟩ |⟨rfl,a1⟩
  ·rcases hh' with⟨i',y',b1,b2,rfl⟩ |⟨rfl,b1⟩
   ·obtain rfl:=(ha d (List.mem_cons_self ..)).one a1 b1
    rw [a2] at b2
    obtain rfl:=Option.some.inj b2
    rfl
   ·exact (b1 _ a1).elim
  ·rcases hh' with⟨i',y',b1,b2,rfl⟩ |⟨rfl,b1⟩
   ·exact (a1 _ b1).elim
   ·rfl
theorem EntN.some {s:ByteArray}:∀{D:List Nd},(∀d∈D,d.N.length=d.I.length)→∃Q,EntN s D Q
 |[],_=>⟨[],rfl⟩
 |d::D,hl=>by
  obtain⟨Q,hQ⟩:=EntN.some (s:=s) (D:=D) fun c hc=>hl c (List.mem_cons_of_mem _ hc)
  by_cases h:∃i:Nat,d.N[i]?=Option.some s
  ·obtain⟨i,hi⟩:=h
   have hlt:i<d.I.length:=by rw [←hl d (List.mem_cons_self ..)];exact (List.getElem?_eq_some_iff.1 hi).1
   exact⟨_,Option.some d.I[i],Q,.inl ⟨i,_,hi,List.getElem?_eq_getElem hlt,rfl⟩,rfl,hQ⟩
  ·exact⟨_,none,Q,.inr ⟨rfl,fun j hj=>h ⟨j,hj⟩⟩,rfl,hQ⟩
theorem Jc0 {R:List Nd}:∀{Q:List (Nat×Nat)} {D:List Nd},Ats R Q D→oneN (tabs R) Q=dirsN (D.take (headN D))
 |[],[],_=>rfl
 |x::Q,d::D,h=>by
  rw [oneN,h.1.ent,headN]
  have h1:(entOf x.2 d).x.K=d.K:=Jb2 d
  have h2:(entOf x.2 d).x.O=d.O:=Jo0 d
  simp only [h1,h2]
  by_cases hk:d.K=2
  ·rw [if_pos hk,if_pos hk,List.take_succ_cons,dirsN,Jc0 h.2]
  ·rw [if_neg hk,if_neg hk,List.take_zero];rfl
 |[],_::_,h=>h.elim
 |_::_,[],h=>h.elim
theorem Jet:∀(D:List Nd),∀d∈D.take (headN D),d.K=2
 |[],d,h=>by simp at h
 |x::D,d,h=>by
  rw [headN] at h
  split at h
  ·rename_i hk
   rw [List.take_succ_cons] at h
   rcases List.mem_cons.1 h with rfl |h
   ·exact hk
   ·exact Jet D d h
  ·simp at h
theorem Jem {d:Nd} {D:List Nd} (hk:d.K=2):seenOf (d::D)=(d::D).take (dirsN ((d::D).take (headN (d::D))))∧1≤dirsN ((d::D).take (headN (d::D))):=by
 unfold seenOf
 simp only
 rw [if_neg (by omega),if_pos hk,List.take_take,Nat.min_eq_left]
 ·refine⟨rfl,?_⟩
  rw [headN,if_pos hk,List.take_succ_cons,dirsN]
  split<;>omega
 ·refine Nat.le_trans (Jix _) ?_
  rw [List.length_take]
  omega
theorem Je9 (Q:List Nd):∀d∈seenOf Q,d∈Q:=fun d hd=>by
 unfold seenOf at hd
 split at hd
 ·cases hd
 ·split at hd
  ·cases hd
  ·split at hd
   ·exact List.mem_of_mem_take (List.mem_of_mem_take hd)
   ·exact List.mem_of_mem_take hd
theorem Jlu {d:Nd} (h:oneB d=true):d.K=1∨d.K=2∨d.K=3∨d.K=4:=by
 unfold oneB at h
 split at h
 ·exact .inl ‹_›
 split at h
 ·exact .inr (.inl ‹_›)
 split at h
 ·exact .inr (.inr (.inl ‹_›))
 split at h
 ·exact .inr (.inr (.inr ‹_›))
 cases h

theorem Jfg {R:List Nd}:∀(L:List Nd) (o:Nat),(∀i:Nat,i<L.length→R[o+i]?=L[i]?)→Ats R ((List.range' o L.length).map fun k=>(k,0)) L
 |[],o,_=>by rw [List.length_nil,List.range'_zero,List.map_nil];trivial
 |x::L,o,h=>by
  rw [List.length_cons,List.range'_succ,List.map_cons]
  refine⟨⟨x,by simpa using h 0 (by simp),by rw [Jct];rfl⟩,Jfg L (o+1) fun i hi=>?_⟩
  have:=h (i+1) (by rw [List.length_cons];omega)
  rw [List.getElem?_cons_succ] at this
  rw [←this]
  congr 1
  omega
theorem Jg9 (R:List Nd):Ats R (roots R.length) R:=by
 unfold roots
 rw [List.range_eq_range']
 exact Jfg R 0 fun i _=>by rw [Nat.zero_add]
theorem Jna (n:Nat):Up (roots n):=by
 unfold Up roots
 rw [List.map_map,show (Prod.fst ∘ fun k:Nat=>(k,0))=id from rfl,List.map_id]
 exact List.pairwise_lt_range
theorem Jiw:∀{R:List Nd},(∀t∈R,t.K=2)→headN R=R.length
 |[],_=>rfl
 |x::R,h=>by rw [headN,if_pos (h x (List.mem_cons_self ..)),Jiw fun t ht=>h t (List.mem_cons_of_mem _ ht),List.length_cons]
theorem Jgo {R:List Nd} (hk:∀t∈R,t.K=2):rootP (tabs R)=(roots R.length).take (dirsN R):=by
 unfold rootP
 rw [Ja9,Jc0 (Jg9 R),Jiw hk,List.take_length]
theorem Jit {R:List Nd} (hk:∀t∈R,t.K=2):Ats R (rootP (tabs R)) (R.take (dirsN R)):=by
 rw [Jgo hk]
 exact (Jg9 R).take _
theorem Jms {R:List Nd}:Up (rootP (tabs R)):=by
 unfold rootP
 exact (Jna _).take _
theorem StkOk.stkM {w:World} {A:Option Addr} {c:Nat} {L:List (Nat×Int)} {T:List Nd} (h:StkOk w A c L T):StkM w A L (tabs T.reverse):=⟨h.slc.rows,by rw [Ja9,List.length_reverse,h.len],fun k x E h1 h2=>by
  obtain⟨_,t,ht,hb⟩:=h.brs k x h1
  have hk:k<T.length:=by rw [←h.len];exact (List.getElem?_eq_some_iff.1 h1).1
  have h3:T.reverse[k]?=some t:=by rw [List.getElem?_reverse hk];exact ht
  rw [Jdk h3] at h2
  obtain rfl:=Option.some.inj h2
  exact hb⟩
def Saw (R:List Nd) (P:List (Nat×Nat)) (D:List Nd) (s:ByteArray) (Q':List Nd) (w:World) (en:Ending) (w':World):Prop:=
 ((seenOf Q'=[]∧en= .returned (.tuple #[foundV 0 0 0 none 0 0,.bool false]))∨
  (∃x d,seenOf Q'=[d]∧At R x d∧(d.K=1∨d.K=3)∧Top P D s x∧en= .returned (.tuple #[foundV d.K (x.1:Int) (x.2:Int) none 0 0,.bool true]))∨
  (∃x d Q A c,(seenOf Q')[0]?=some d∧At R x d∧d.K=2∧Top P D s x∧Ats R Q (seenOf Q')∧Up Q∧Q[0]?=some x∧(∀d∈seenOf Q',d.K=2)∧
     en= .returned (.tuple #[foundV d.K (x.1:Int) (x.2:Int) A Q.length c,.bool true])∧Plc w' w'.heap.size A Q∧Q.length≤c))∧Below w.heap.size w w'
theorem Jne {R:List Nd} (hall:∀t∈R,allB t=true) {P:List (Nat×Nat)} {D:List Nd} (hD:Ats R P D) (hU:Up P) {s:ByteArray} {Q':List Nd} (hQ:EntN s D Q')
  (A:Option Addr) (c:Nat) (ad:Int) (L:List (Nat×Int)) (Ap:Option Addr) (cp:Nat) (w:World) (h:StkM w A L (tabs R)) (hp:Plc w w.heap.size Ap P) (hlp:P.length≤1000):
  Calls Tryz.prog 37 #[stkV A L.length c ad,.slice Ap P.length cp,.string s] w (Saw R P D s Q' w):=by
 refine (Jd4 A c ad L (tabs R) Ap cp P s w h hp hlp hD.all (Ji9 hall) Jkf).mono ?_
 rintro en w' ⟨Q,hE,hO,hb⟩
 obtain⟨j1,j2,j3,j4⟩:=join hall hD hE hQ
 refine⟨?_,hb⟩
 rcases hO with⟨h1,rfl⟩ |⟨x,e,h1,h2,h3,rfl⟩ |⟨x,e,A',c',h1,h2,h3,rfl,h4,h5⟩
 ·refine .inl ⟨?_,rfl⟩
  rcases Q' with _ |⟨d,Q'⟩
  ·rfl
  ·rcases Q with _ |⟨x,Q⟩
   ·exact j1.elim
   ·have hk:=h1 x _ rfl j1.1.ent
    have hK:(entOf x.2 d).x.K=d.K:=Jb2 d
    rw [hK] at hk
    have:=Jlu (j1.1.one hall)
    unfold seenOf
    simp only
    rw [if_pos (by omega)]
 ·refine .inr (.inl ?_)
  obtain⟨d,g1,g2⟩:=j1.at_ h1
  have he:=g2.ent
  rw [h2] at he
  obtain rfl:=Option.some.inj he
  have hK:(entOf x.2 d).x.K=d.K:=Jb2 d
  rw [hK] at h3 ⊢
  refine⟨x,d,?_,g2,h3,j4 x h1,rfl⟩
  rcases Q' with _ |⟨d',Q'⟩
  ·simp at g1
  ·obtain rfl:d'=d:=by simpa using g1
   unfold seenOf
   simp only
   rw [if_neg (by omega),if_neg (by omega)]
   rfl
 ·refine .inr (.inr ?_)
  obtain⟨d,g1,g2⟩:=j1.at_ h1
  have he:=g2.ent
  rw [h2] at he
  obtain rfl:=Option.some.inj he
  have hK:(entOf x.2 d).x.K=d.K:=Jb2 d
  rw [hK] at h3 ⊢
  rcases Q' with _ |⟨d',Q'⟩
  ·simp at g1
  ·obtain rfl:d'=d:=by simpa using g1
   obtain⟨s1,s2⟩:=Jem (D:=Q') h3
   have s3:=Jc0 j1
   have s4:Ats R (Q.take (oneN (tabs R) Q)) (seenOf (d'::Q')):=by rw [s1,s3];exact j1.take _
   have s5:1≤oneN (tabs R) Q:=by rw [s3];exact s2
   have s6:(Q.take (oneN (tabs R) Q))[0]?=some x:=by rw [List.getElem?_take_of_lt (by omega)];exact h1
   obtain⟨d2,s7,s8⟩:=s4.at_ s6
   have hd2:d2=d':=by
    rw [s1,List.getElem?_take_of_lt (by omega)] at s7
    simpa using s7.symm
   subst hd2
   refine⟨x,d2,_,A',c',s7,g2,h3,j4 x h1,s4,(hU.sub j2).take _,s6,fun q hq=>?_,rfl,h4,h5⟩
   unfold seenOf at hq
   simp only at hq
   rw [if_neg (by omega),if_pos h3] at hq
   exact Jet _ q (List.mem_of_mem_take hq)
theorem Ats.right {R:List Nd} {P:List (Nat×Nat)} {D:List Nd} (h:Ats R P D) (hall:∀t∈R,allB t=true):∀d∈D,Asc d.N∧d.N.length=d.I.length:=fun d hd=>by
 obtain⟨x,_,hx⟩:=h.mem d hd
 obtain⟨h1,h2,_⟩:=Jbc (hx.one hall)
 exact⟨h1,h2⟩
theorem Jjm {s:ByteArray} {D Q':List Nd} (hQ:EntN s D Q') {k:Nat} (hk:∀d∈D,depth d<k+1):∀d∈seenOf Q',depth d<k:=fun d hd=>by
 have key:∀{D Q':List Nd},EntN s D Q'→∀q∈Q',∃d∈D,∃i:Nat,d.I[i]?=some q:=by
  intro D
  induction D with
  |nil=>intro Q' h q hq;have h':Q'=[]:=h;subst h';cases hq
  |cons c D ih=>
   rintro Q' ⟨o,Q1,hh,rfl,hr⟩ q hq
   rcases List.mem_append.1 hq with hq |hq
   ·rcases hh with⟨i,y,a1,a2,rfl⟩ |⟨rfl,a1⟩
    ·have hq':q=y:=by simpa using hq
     subst hq'
     exact⟨c,List.mem_cons_self ..,i,a2⟩
    ·simp at hq
   ·obtain⟨d,h1,h2⟩:=ih hr q hq
    exact⟨d,List.mem_cons_of_mem _ h1,h2⟩
 obtain⟨c,h1,i,h2⟩:=key hQ d (Je9 Q' d hd)
 have h3:=Jd5 h2
 have h4:=hk c h1
 rw [Jd3] at h4
 omega
theorem Jfd (Q:List Nd):(seenOf Q).length≤Q.length:=by
 unfold seenOf
 split
 ·exact Nat.le_refl _
 ·split
  ·exact Nat.zero_le _
  ·split
   ·rw [List.length_take,List.length_take];omega
   ·rw [List.length_take];omega
theorem EntN.len {s:ByteArray}:∀{D Q:List Nd},EntN s D Q→Q.length≤D.length
 |[],Q,h=>by
  have h':Q=[]:=h
  subst h'
  exact Nat.le_refl _
 |c::D,Q,⟨o,Q1,hh,hq,hr⟩=>by
  have:=EntN.len hr
  subst hq
  rw [List.length_append,List.length_cons]
  rcases o with _ |o<;>simp<;>omega
end Go.Proofs.YtckjkndegjklnaaGreatDoor.seen
