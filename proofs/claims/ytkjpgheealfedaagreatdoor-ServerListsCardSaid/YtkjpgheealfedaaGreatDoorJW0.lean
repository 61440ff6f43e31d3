import Derived.WalkKit
import Derived.Lib.Bytealg
import Derived.Lib.UnsafeStr
namespace Go.Proofs.YtkjpgheealfedaaGreatDoor.heap
open List

structure Ord {α:Type} (lt:α→α→Prop):Prop where
 asym:∀a b,lt a b→¬lt b a
 neg:∀a b c,¬lt a b→¬lt b c→¬lt a c

variable {α:Type} {lt:α→α→Prop}

def swapL (L:List α) (i j:Nat) (hi:i<L.length) (hj:j<L.length):List α:=(L.set i L[j]).set j L[i]
theorem Jag (L:List α) (i j:Nat) (hi:i<L.length) (hj:j<L.length):(swapL L i j hi hj).length=L.length:=by simp [swapL]
theorem Jbw (L:List α) (i j:Nat) (hi:i<L.length) (hj:j<L.length):swapL L i j hi hj ~ L:=List.set_set_perm hi hj
theorem Jax (L:List α) (i j k:Nat) (hi:i<L.length) (hj:j<L.length) (hk:k<(swapL L i j hi hj).length):
  (swapL L i j hi hj)[k]=if k=j then L[i] else if k=i then L[j] else L[k]'(by simpa [swapL] using hk):=by
 simp only [swapL,List.getElem_set];by_cases h1:k=j
 ·subst h1;simp
 ·rw [if_neg (fun e=>h1 e.symm),if_neg h1]
  by_cases h2:k=i
  ·subst h2;simp
  ·rw [if_neg (fun e=>h2 e.symm),if_neg h2]

def Hp (lt:α→α→Prop) (L:List α) (n:Nat):Prop:=∀k p (hk:k<L.length) (hp:p<L.length),0<k→k<n→p=(k - 1) / 2→¬lt L[k] L[p]
def Up (lt:α→α→Prop) (L:List α) (n j:Nat):Prop:=
 (∀k p (hk:k<L.length) (hp:p<L.length),0<k→k<n→k≠j→p=(k - 1) / 2→¬lt L[k] L[p])∧
 (∀k p (hk:k<L.length) (hp:p<L.length),0<k→k<n→(k - 1) / 2=j→0<j→p=(j - 1) / 2→¬lt L[k] L[p])
def Down (lt:α→α→Prop) (L:List α) (n i:Nat):Prop:=
 (∀k p (hk:k<L.length) (hp:p<L.length),0<k→k<n→(k - 1) / 2≠i→p=(k - 1) / 2→¬lt L[k] L[p])∧
 (∀k p (hk:k<L.length) (hp:p<L.length),0<k→k<n→(k - 1) / 2=i→0<i→p=(i - 1) / 2→¬lt L[k] L[p])

theorem Hp.zero (L:List α):Hp lt L 0:=fun _ _ _ _ _ h=>absurd h (Nat.not_lt_zero _)
theorem Hp.mono {L:List α} {n m:Nat} (h:Hp lt L n) (hm:m≤n):Hp lt L m:=fun k p hk hp h0 h1 h2=>h k p hk hp h0 (by omega) h2
theorem Hp.take {L:List α} {n:Nat} (h:Hp lt L n) (m:Nat) (hm:m≤n):Hp lt (L.take m) m:=fun k p hk hp h0 h1 h2=>by
 rw [List.getElem_take,List.getElem_take];exact h k p _ _ h0 (by omega) h2
theorem Up.push {L:List α} (h:Hp lt L L.length) (x:α):Up lt (L++[x]) (L.length+1) L.length:=by
 refine⟨fun k p hk hp h0 h1 h2 h3=>?_,fun k p hk hp h0 h1 h2=>by omega⟩;rw [List.getElem_append_left (by omega),List.getElem_append_left (by omega)];exact h k p _ _ h0 (by omega) h3
theorem Up.done0 {L:List α} {n:Nat} (h:Up lt L n 0):Hp lt L n:=fun k p hk hp h0 h1 h2=>h.1 k p hk hp h0 h1 (by omega) h2
theorem Up.done {L:List α} {n j p:Nat} (h:Up lt L n j) (hj:j<L.length) (hp:p<L.length) (e:p=(j - 1) / 2) (hn:¬lt L[j] L[p]):Hp lt L n:=fun k q hk hq h0 h1 h2=>by
 by_cases hkj:k=j
 ·subst hkj
  obtain rfl:q=p:=by omega
  exact hn
 ·exact h.1 k q hk hq h0 h1 hkj h2
theorem Up.step (O:Ord lt) {L:List α} {n j p:Nat} (h:Up lt L n j) (hj:j<L.length) (hp:p<L.length) (hjn:j<n) (h0:0<j) (e:p=(j - 1) / 2) (hl:lt L[j] L[p]):Up lt (swapL L p j hp hj) n p:=by
 have hpj:p≠j:=by omega
 constructor
 ·intro k q hk hq k0 k1 k2 k3
  have hkL:k<L.length:=by rw [Jag] at hk;exact hk
  have hqL:q<L.length:=by rw [Jag] at hq;exact hq
  rw [Jax,Jax];by_cases e1:k=j
  ·subst e1
   obtain rfl:q=p:=by omega
   rw [if_pos rfl,if_neg hpj,if_pos rfl];exact O.asym _ _ hl
  ·rw [if_neg e1,if_neg k2]
   by_cases e2:q=p
   ·rw [if_neg (by omega),if_pos e2]
    have a1:=h.1 k p hkL hp k0 k1 e1 (by omega);intro hc;exact O.neg _ _ _ a1 (O.asym _ _ hl) hc
   ·by_cases e3:q=j
    ·rw [if_pos e3]
     exact h.2 k p hkL hp k0 k1 (by omega) h0 e
    ·rw [if_neg e3,if_neg e2]
     exact h.1 k q hkL hqL k0 k1 e1 k3
 ·intro k q hk hq k0 k1 k2 k3 k4
  have hkL:k<L.length:=by rw [Jag] at hk;exact hk
  have hqL:q<L.length:=by rw [Jag] at hq;exact hq
  rw [Jax,Jax];rw [if_neg (show ¬q=j by omega),if_neg (show ¬q=p by omega)];have a2:=h.1 p q hp hqL k3 (by omega) hpj k4;by_cases e1:k=j
  ·rw [if_pos e1]
   exact a2
  ·rw [if_neg e1,if_neg (by omega)]
   exact O.neg _ _ _ (h.1 k p hkL hp k0 k1 e1 (by omega)) a2

theorem Down.done {L:List α} {n i:Nat} (h:Down lt L n i) (hi:i<L.length) (hc:∀k (hk:k<L.length),0<k→k<n→(k - 1) / 2=i→¬lt L[k] L[i]):Hp lt L n:=fun k q hk hq h0 h1 h2=>by
 by_cases e:(k - 1) / 2=i
 ·obtain rfl:q=i:=by omega
  exact hc k hk h0 h1 e
 ·exact h.1 k q hk hq h0 h1 e h2
theorem Down.stop (O:Ord lt) {L:List α} {n i j:Nat} (h:Down lt L n i) (hi:i<L.length) (hj:j<L.length) (hm:∀k (hk:k<L.length),0<k→k<n→(k - 1) / 2=i→¬lt L[k] L[j]) (hl:¬lt L[j] L[i]):Hp lt L n:=
 h.done hi fun k hk h0 h1 h2=>O.neg _ _ _ (hm k hk h0 h1 h2) hl
theorem Down.step (O:Ord lt) {L:List α} {n i j:Nat} (h:Down lt L n i) (hi:i<L.length) (hj:j<L.length) (j0:0<j) (hjn:j<n) (e:(j - 1) / 2=i) (hm:∀k (hk:k<L.length),0<k→k<n→(k - 1) / 2=i→¬lt L[k] L[j]) (hl:lt L[j] L[i]):Down lt (swapL L i j hi hj) n j:=by
 have hij:i≠j:=by omega
 constructor
 ·intro k q hk hq k0 k1 k2 k3
  have hkL:k<L.length:=by rw [Jag] at hk;exact hk
  have hqL:q<L.length:=by rw [Jag] at hq;exact hq
  rw [Jax,Jax];rw [if_neg (show ¬q=j by omega)];by_cases e1:k=j
  ·subst e1
   obtain rfl:q=i:=by omega
   rw [if_pos rfl,if_pos rfl];exact O.asym _ _ hl
  ·rw [if_neg e1]
   by_cases e2:q=i
   ·subst e2
    rw [if_neg (by omega),if_pos rfl];exact hm k hkL k0 k1 (by omega)
   ·rw [if_neg e2]
    by_cases e3:k=i
    ·rw [if_pos e3]
     subst e3;exact h.2 j q hj hqL j0 hjn e k0 k3
    ·rw [if_neg e3]
     exact h.1 k q hkL hqL k0 k1 (by omega) k3
 ·intro k q hk hq k0 k1 k2 k3 k4
  have hkL:k<L.length:=by rw [Jag] at hk;exact hk
  have hqL:q<L.length:=by rw [Jag] at hq;exact hq
  rw [Jax,Jax];rw [if_neg (show ¬q=j by omega),if_pos (show q=i by omega),if_neg (show ¬k=j by omega),if_neg (show ¬k=i by omega)];exact h.1 k j hkL hj k0 k1 (by omega) (by omega)
theorem Down.start {L:List α} {n:Nat} (h:Hp lt L (n+1)) (hn:n<L.length):Down lt (swapL L 0 n (by omega) hn) n 0:=by
 refine⟨fun k p hk hp h0 h1 h2 h3=>?_,fun k p hk hp h0 h1 h2 h3=>by omega⟩;rw [Jax,Jax,if_neg (by omega),if_neg (by omega),if_neg (by omega),if_neg (by omega)];exact h k p _ _ h0 (by omega) h3
theorem Hp.least (O:Ord lt) {L:List α} {n:Nat} (h:Hp lt L n):∀k (hk:k<L.length),k<n→¬lt L[k] (L[0]'(by omega)):=by
 intro k
 induction k using Nat.strongRecOn with
 |_ k ih=>
  intro hk hn;by_cases h0:k=0
  ·subst h0
   exact fun hc=>O.asym _ _ hc hc
  ·exact O.neg _ _ _ (h k ((k - 1) / 2) hk (by omega) (by omega) hn rfl) (ih _ (by omega) (by omega) (by omega))

def ltB (a b:ByteArray):Bool:=Op.bytesLess a.toList b.toList
theorem Jbz (a b:UInt8) (x y:List UInt8):Op.bytesLess (a::x) (b::y)=(decide (a<b)||(a==b&&Op.bytesLess x y)):=rfl
theorem Je3 (x:List UInt8):Op.bytesLess x []=false:=by cases x<;>rfl
theorem Jfq:∀x:List UInt8,Op.bytesLess x x=false
 |[]=>rfl
 |a::x=>by rw [Jbz,Jfq x];simp
theorem Jgx:∀{x y z:List UInt8},Op.bytesLess x y=true→Op.bytesLess y z=true→Op.bytesLess x z=true
 |_,_,[],_,h2=>by rw [Je3] at h2;cases h2
 |_,[],_::_,h1,_=>by rw [Je3] at h1;cases h1
 |[],_::_,_::_,_,_=>rfl
 |a::x,b::y,c::z,h1,h2=>by
  rw [Jbz] at h1 h2 ⊢;simp only [Bool.or_eq_true,decide_eq_true_eq,Bool.and_eq_true,beq_iff_eq] at h1 h2 ⊢;rcases h1 with h1 |⟨rfl,h1⟩
  ·rcases h2 with h2 |⟨rfl,h2⟩
   ·left
    have a1:a.toNat<b.toNat:=h1;have a2:b.toNat<c.toNat:=h2;show a.toNat<c.toNat;omega
   ·exact .inl h1
  ·rcases h2 with h2 |⟨rfl,h2⟩
   ·exact .inl h2
   ·exact .inr ⟨rfl,Jgx h1 h2⟩
theorem Jk8:∀x y:List UInt8,Op.bytesLess x y=true∨x=y∨Op.bytesLess y x=true
 |[],[]=> .inr (.inl rfl)
 |[],_::_=> .inl rfl
 |_::_,[]=> .inr (.inr rfl)
 |a::x,b::y=>by
  rw [Jbz,Jbz];rcases Nat.lt_trichotomy a.toNat b.toNat with h |h |h
  ·left
   have:a<b:=h;simp [this]
  ·obtain rfl:a=b:=UInt8.toNat_inj.1 h
   rcases Jk8 x y with h1 |rfl |h1
   ·left;simp [h1]
   ·right;left;rfl
   ·right;right;simp [h1]
  ·right;right
   have:b<a:=h;simp [this]
theorem toList_inj {a b:ByteArray} (h:a.toList=b.toList):a=b:=by
 rw [ByteArray.toList_eq,ByteArray.toList_eq] at h;exact ByteArray.ext (Array.ext' h)
theorem ltB_self (a:ByteArray):ltB a a=false:=Jfq _
theorem ltB_trans {a b c:ByteArray} (h1:ltB a b=true) (h2:ltB b c=true):ltB a c=true:=Jgx h1 h2
theorem Jkh {a b:ByteArray} (h:ltB a b=true):ltB b a=false:=by
 rcases h2:ltB b a with _ |_
 ·rfl
 ·rw [←ltB_self a,ltB_trans h h2]
theorem ltB_tri (a b:ByteArray):ltB a b=true∨a=b∨ltB b a=true:=by
 rcases Jk8 a.toList b.toList with h |h |h
 ·exact .inl h
 ·exact .inr (.inl (toList_inj h))
 ·exact .inr (.inr h)

abbrev It:=ByteArray×Nat
def ltI (a b:It):Prop:=ltB a.1 b.1=true∨(a.1=b.1∧a.2<b.2)
def leI (a b:It):Prop:=¬ltI b a
theorem Ji9 (a b:It):ltI a b∨a=b∨ltI b a:=by
 obtain⟨a,i⟩:=a;obtain⟨b,j⟩:=b;rcases ltB_tri a b with h |rfl |h
 ·exact .inl (.inl h)
 ·rcases Nat.lt_trichotomy i j with h |rfl |h
  ·exact .inl (.inr ⟨rfl,h⟩)
  ·exact .inr (.inl rfl)
  ·exact .inr (.inr (.inr ⟨rfl,h⟩))
 ·exact .inr (.inr (.inl h))
theorem Jfu {a b c:It} (h1:ltI a b) (h2:ltI b c):ltI a c:=by
 rcases h1 with h1 |⟨e1,h1⟩
 ·rcases h2 with h2 |⟨e2,h2⟩
  ·exact .inl (ltB_trans h1 h2)
  ·exact .inl (e2▸h1)
 ·rcases h2 with h2 |⟨e2,h2⟩
  ·exact .inl (e1▸h2)
  ·exact .inr ⟨e1.trans e2,by omega⟩
theorem Jk3 (a:It):¬ltI a a:=by
 rintro (h |⟨_,h⟩)
 ·rw [ltB_self] at h;cases h
 ·omega
theorem Jjj:Ord ltI where
 asym a b h h':=Jk3 a (Jfu h h')
 neg a b c h1 h2 h3:=by
  rcases Ji9 a b with h |rfl |h
  ·exact h1 h
  ·exact h2 h3
  ·rcases Ji9 b c with h' |rfl |h'
   ·exact h2 h'
   ·exact h1 h3
   ·exact Jk3 _ (Jfu h3 (Jfu h' h))
theorem Jop {a b c:It} (h1:leI a b) (h2:leI b c):leI a c:=Jjj.neg _ _ _ h2 h1
theorem Jpu {a b:It} (h1:leI a b) (h2:leI b a):a=b:=by
 rcases Ji9 a b with h |h |h
 ·exact absurd h h2
 ·exact h
 ·exact absurd h h1

def Ris (l:List ByteArray):Prop:=l.Pairwise fun a b=>ltB a b=true
theorem Ris.next {l:List ByteArray} (h:Ris l) (s:ByteArray) (hn:∀q,l.getLast?=some q→ltB q s=true):Ris (l++[s]):=by
 refine List.pairwise_append.2 ⟨h,List.pairwise_singleton _ _,fun a ha b hb=>?_⟩;obtain rfl:b=s:=by simpa using hb
 obtain⟨q,hq⟩:∃q,l.getLast?=some q:=by
  rcases h:l.getLast? with _ |q
  ·rw [List.getLast?_eq_none_iff.1 h] at ha;cases ha
  ·exact⟨q,rfl⟩
 have hnq:=hn q hq;obtain⟨l',rfl⟩:∃l',l=l'++[q]:=List.getLast?_eq_some_iff.1 hq;rcases List.mem_append.1 ha with ha |ha
 ·exact ltB_trans ((List.pairwise_append.1 h).2.2 a ha q (by simp)) hnq
 ·obtain rfl:a=q:=by simpa using ha
  exact hnq

def remF (at_:Nat→Nat):Nat→List (List ByteArray)→List It
 |_,[]=>[]
 |i,l::rest=>((l.drop (at_ i)).map fun s=>(s,i))++remF at_ (i+1) rest
def allF (rows:List (List ByteArray)):List It:=remF (fun _=>0) 0 rows
theorem Jh6 (f:Nat→Nat):∀(rows:List (List ByteArray)) (i:Nat) (l:List ByteArray),remF f i (rows++[l])=remF f i rows++((l.drop (f (i+rows.length))).map fun s=>(s,i+rows.length))
 |[],i,l=>by simp [remF]
 |r::rest,i,l=>by
  rw [List.cons_append,remF,remF,Jh6 f rest (i+1) l,List.append_assoc,List.length_cons,show i+1+rest.length=i+(rest.length+1) by omega]
theorem Jn9 (rows:List (List ByteArray)) (l:List ByteArray):allF (rows++[l])=allF rows++l.map fun s=>(s,rows.length):=by
 unfold allF;rw [Jh6];simp
theorem Jlf {f:Nat→Nat} {x:It}:∀{rows:List (List ByteArray)} {i:Nat},x∈remF f i rows→∃l k,rows[k]?=some l∧x.2=i+k∧x.1∈l.drop (f (i+k))
 |[],_,h=>by cases h
 |r::rest,i,h=>by
  rw [remF] at h;rcases List.mem_append.1 h with h |h
  ·obtain⟨s,hs,rfl⟩:=List.mem_map.1 h
   exact⟨r,0,rfl,rfl,hs⟩
  ·obtain⟨l,k,h1,h2,h3⟩:=Jlf h
   exact⟨l,k+1,by simpa using h1,by omega,by rw [show i+(k+1)=i+1+k by omega];exact h3⟩
theorem mem_allF {x:It} {rows:List (List ByteArray)}:x∈allF rows↔∃l,rows[x.2]?=some l∧x.1∈l:=by
 constructor
 ·intro h
  obtain⟨l,k,h1,h2,h3⟩:=Jlf h;exact⟨l,by rw [h2];simpa using h1,by simpa using h3⟩
 ·rintro⟨l,h1,h2⟩
  have:∀(rows:List (List ByteArray)) (i k:Nat),rows[k]?=some l→x.2=i+k→x∈remF (fun _=>0) i rows:=by
   intro rows
   induction rows with
   |nil=>intro i k h;simp at h
   |cons r rest ih=>
    intro i k hk e;rw [remF];rcases k with _ |k
    ·obtain rfl:r=l:=by simpa using hk
     exact List.mem_append_left _ (List.mem_map.2 ⟨x.1,by simpa using h2,by rw [show i=x.2 by omega]⟩)
    ·exact List.mem_append_right _ (ih (i+1) k (by simpa using hk) (by omega))
  exact this rows 0 x.2 h1 (by omega)

structure Mrg (all out left:List It):Prop where
 perm:out++left ~ all
 sort:out.Pairwise leI
 le:∀o∈out,∀x∈left,leI o x
theorem Mrg.start {all left:List It} (h:left ~ all):Mrg all [] left:=⟨h,List.Pairwise.nil,fun _ h=>by cases h⟩
theorem Mrg.next {all out left left':List It} {x:It} (h:Mrg all out left) (hp:left ~ x::left') (hx:∀y∈left,leI x y):Mrg all (out++[x]) left':=by
 refine⟨?_,?_,?_⟩
 ·rw [List.append_assoc]
  exact ((hp.symm.append_left out)).trans h.perm
 ·refine List.pairwise_append.2 ⟨h.sort,List.pairwise_singleton _ _,fun a ha b hb=>?_⟩
  obtain rfl:b=x:=by simpa using hb
  exact h.le a ha b (hp.symm.subset (List.mem_cons_self ..))
 ·intro o ho y hy
  have hyl:y∈left:=hp.symm.subset (List.mem_cons_of_mem _ hy);rcases List.mem_append.1 ho with ho |ho
  ·exact h.le o ho y hyl
  ·obtain rfl:o=x:=by simpa using ho
   exact hx y hyl
def Merged (rows:List (List ByteArray)) (out:List It):Prop:=out ~ allF rows∧out.Pairwise leI
theorem Mrg.done {rows:List (List ByteArray)} {out:List It} (h:Mrg (allF rows) out []):Merged rows out:=⟨by simpa using h.perm,h.sort⟩
theorem Merged.eq {rows:List (List ByteArray)} {a b:List It} (ha:Merged rows a) (hb:Merged rows b):a=b:=
 List.Perm.eq_of_pairwise (fun _ _ _ _ h1 h2=>Jpu h1 h2) ha.2 hb.2 (ha.1.trans hb.1.symm)

def firstF:Option ByteArray→List It→List It
 |_,[]=>[]
 |p,x::l=>if p=some x.1 then firstF p l else x::firstF (some x.1) l
def firsts (l:List It):List It:=firstF none l
theorem firstF_names_mem {s:ByteArray}:∀{l:List It} {p:Option ByteArray},(∀x∈firstF p l,x∈l)∧(s∈l.map Prod.fst→p=some s∨s∈(firstF p l).map Prod.fst)
 |[],p=>⟨fun _ h=>(by cases h),fun h=>(by cases h)⟩
 |y::l,p=>by
  rw [firstF];by_cases hp:p=some y.1
  ·rw [if_pos hp]
   have ih:=firstF_names_mem (s:=s) (l:=l) (p:=p);refine⟨fun x hx=>List.mem_cons_of_mem _ (ih.1 x hx),fun h=>?_⟩;rcases List.mem_cons.1 h with h |h
   ·exact .inl (by rw [hp,h])
   ·exact ih.2 h
  ·rw [if_neg hp]
   have ih:=firstF_names_mem (s:=s) (l:=l) (p:=some y.1);refine⟨fun x hx=>?_,fun h=>?_⟩
   ·rcases List.mem_cons.1 hx with rfl |hx
    ·exact List.mem_cons_self ..
    ·exact List.mem_cons_of_mem _ (ih.1 x hx)
   ·rw [List.map_cons]
    rcases List.mem_cons.1 h with h |h
    ·exact .inr (List.mem_cons.2 (.inl h))
    ·rcases ih.2 h with h |h
     ·injection h with h
      exact .inr (List.mem_cons.2 (.inl h.symm))
     ·exact .inr (List.mem_cons_of_mem _ h)
theorem Jmc {l:List It} {s:ByteArray}:s∈(firsts l).map Prod.fst↔s∈l.map Prod.fst:=by
 constructor
 ·intro h
  obtain⟨x,hx,rfl⟩:=List.mem_map.1 h;exact List.mem_map.2 ⟨x,(firstF_names_mem (s:=x.1)).1 x hx,rfl⟩
 ·intro h
  rcases (firstF_names_mem (s:=s) (l:=l) (p:=none)).2 h with h |h
  ·cases h
  ·exact h
theorem firstF_ris:∀{l:List It} {p:Option ByteArray},l.Pairwise leI→(∀q,p=some q→∀x∈l,ltB x.1 q=false)→(∀q,p=some q→∀x∈firstF p l,ltB q x.1=true)∧Ris ((firstF p l).map Prod.fst)
 |[],p,_,_=>⟨fun _ _ _ h=>(by cases h),List.Pairwise.nil⟩
 |y::l,p,h,hp=>by
  rw [firstF];obtain⟨h1,h2⟩:=List.pairwise_cons.1 h;by_cases e:p=some y.1
  ·rw [if_pos e]
   exact firstF_ris h2 fun q hq x hx=>hp q hq x (List.mem_cons_of_mem _ hx)
  ·rw [if_neg e]
   have ih:=firstF_ris (l:=l) (p:=some y.1) h2 fun q hq x hx=>by
    injection hq with hq;subst hq;rcases hb:ltB x.1 y.1 with _ |_
    ·rfl
    ·exact absurd (.inl hb) (h1 x hx)
   have hy:∀q,p=some q→ltB q y.1=true:=fun q hq=>by
    rcases ltB_tri q y.1 with h |h |h
    ·exact h
    ·exact absurd (by rw [hq,h]) e
    ·rw [hp q hq y (List.mem_cons_self ..)] at h;cases h
   refine⟨fun q hq x hx=>?_,?_⟩
   ·rcases List.mem_cons.1 hx with rfl |hx
    ·exact hy q hq
    ·exact ltB_trans (hy q hq) (ih.1 _ rfl x hx)
   ·rw [List.map_cons]
    refine List.pairwise_cons.2 ⟨fun b hb=>?_,ih.2⟩;obtain⟨x,hx,rfl⟩:=List.mem_map.1 hb;exact ih.1 _ rfl x hx
theorem Jmn {l:List It} (h:l.Pairwise leI):Ris ((firsts l).map Prod.fst):=(firstF_ris h fun _ hq=>by cases hq).2
theorem ris_eq {a b:List ByteArray} (ha:Ris a) (hb:Ris b) (h:∀s,s∈a↔s∈b):a=b:=by
 have hn:∀{l:List ByteArray},Ris l→l.Nodup:=fun hl=>List.Pairwise.imp (fun {x y} hxy e=>by rw [e,ltB_self] at hxy;cases hxy) hl;refine List.Perm.eq_of_pairwise (le:=fun a b=>ltB a b=true) (fun x y _ _ h1 h2=>?_) ha hb ((List.perm_ext_iff_of_nodup (hn ha) (hn hb)).2 h);rw [Jkh h1] at h2;cases h2
theorem Merged.names {rows:List (List ByteArray)} {out:List It} (h:Merged rows out):Ris ((firsts out).map Prod.fst)∧∀s,s∈(firsts out).map Prod.fst↔∃l∈rows,s∈l:=by
 refine⟨Jmn h.2,fun s=>Jmc.trans ⟨fun hs=>?_,fun hs=>?_⟩⟩
 ·obtain⟨x,hx,rfl⟩:=List.mem_map.1 hs
  obtain⟨l,h1,h2⟩:=mem_allF.1 (h.1.subset hx);exact⟨l,List.mem_of_getElem? h1,h2⟩
 ·obtain⟨l,h1,h2⟩:=hs
  obtain⟨k,hk⟩:=List.mem_iff_getElem?.1 h1;exact List.mem_map.2 ⟨(s,k),h.1.symm.subset (mem_allF.2 ⟨l,hk,h2⟩),rfl⟩
theorem Merged.parts {rows:List (List ByteArray)} {a b one all:List It} (k:Nat) (ha:Merged (rows.take k) a) (hb:Merged (rows.drop k) b) (hone:Merged [(firsts a).map Prod.fst,(firsts b).map Prod.fst] one) (hall:Merged rows all):
  (firsts one).map Prod.fst=(firsts all).map Prod.fst:=by
 refine ris_eq hone.names.1 hall.names.1 fun s=>(hone.names.2 s).trans (Iff.trans ?_ (hall.names.2 s).symm);constructor
 ·rintro⟨l,hl,hs⟩
  rcases List.mem_cons.1 hl with rfl |hl
  ·obtain⟨l,h1,h2⟩:=(ha.names.2 s).1 hs
   exact⟨l,List.mem_of_mem_take h1,h2⟩
  ·obtain rfl:l=_:=by simpa using hl
   obtain⟨l,h1,h2⟩:=(hb.names.2 s).1 hs;exact⟨l,List.mem_of_mem_drop h1,h2⟩
 ·rintro⟨l,hl,hs⟩
  rw [←List.take_append_drop k rows] at hl;rcases List.mem_append.1 hl with hl |hl
  ·exact⟨_,List.mem_cons_self ..,(ha.names.2 s).2 ⟨l,hl,hs⟩⟩
  ·exact⟨_,List.mem_cons_of_mem _ (List.mem_cons_self ..),(hb.names.2 s).2 ⟨l,hl,hs⟩⟩

theorem Jey:∀a b:List UInt8,(Lib.compareBytes a b<0↔Op.bytesLess a b=true)∧(Lib.compareBytes a b=0↔a=b)
 |[],[]=>⟨by simp [Lib.compareBytes,Op.bytesLess],by simp [Lib.compareBytes]⟩
 |[],_::_=>⟨by simp [Lib.compareBytes,Op.bytesLess],by simp [Lib.compareBytes]⟩
 |_::_,[]=>⟨by simp [Lib.compareBytes,Op.bytesLess],by simp [Lib.compareBytes]⟩
 |a::x,b::y=>by
  rw [Lib.compareBytes,Jbz];have ih:=Jey x y;rcases Nat.lt_trichotomy a.toNat b.toNat with h |h |h
  ·have h1:a<b:=h
   rw [if_pos h1];refine⟨by simp [h1],⟨fun e=>by omega,fun e=>?_⟩⟩;injection e with e;rw [e] at h;omega
  ·obtain rfl:a=b:=UInt8.toNat_inj.1 h
   have h1:¬a<a:=fun hc=>by have:a.toNat<a.toNat:=hc;omega
   rw [if_neg h1,if_neg h1];refine⟨by simp [ih.1],by simp [ih.2]⟩
  ·have h1:b<a:=h
   have h2:¬a<b:=fun hc=>by have:a.toNat<b.toNat:=hc;omega
   have h3:¬a=b:=fun e=>by rw [e] at h;omega
   rw [if_neg h2,if_pos h1];refine⟨by simp [h2,h3],⟨fun e=>by omega,fun e=>?_⟩⟩;injection e with e;exact absurd e h3
end Go.Proofs.YtkjpgheealfedaaGreatDoor.heap
