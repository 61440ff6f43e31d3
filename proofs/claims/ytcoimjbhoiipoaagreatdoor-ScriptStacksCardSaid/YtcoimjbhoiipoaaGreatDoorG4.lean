import Derived.Test.YtcoimjbhoiipoaaGreatDoorG0
import Derived.Laws.CopyOwn
set_option maxRecDepth 100000
namespace Go.Proofs.YtcoimjbhoiipoaaGreatDoor.lru

section
variable {κ ν:Type}
end
section
variable {κ ν:Type} [DecidableEq κ]
def rest (L:List (κ×ν)) (k:κ):List (κ×ν):=L.filter fun p=> !decide (p.1=k)
def val (L:List (κ×ν)) (k:κ):Option ν:=(L.find? fun p=>decide (p.1=k)).map (·.2)
def getL (L:List (κ×ν)) (k:κ):List (κ×ν):=match val L k with
 |some v=>(k,v)::rest L k
 |none=>L
theorem there (L:List (κ×ν)) (k:κ):(∃(i:Nat) (x:ν),L[i]?=some (k,x))∨∀p∈L,p.1≠k:=by
 by_cases h:∃p,p∈L∧p.1=k
 ·obtain⟨⟨a,x⟩,hp,rfl⟩:=h
  obtain⟨i,hi⟩:=List.mem_iff_getElem?.1 hp;exact .inl ⟨i,x,hi⟩
 ·exact .inr fun p hp he=>h ⟨p,hp,he⟩
end
end Go.Proofs.YtcoimjbhoiipoaaGreatDoor.lru

namespace Go.Proofs.YtcoimjbhoiipoaaGreatDoor.lru
open Go.RowKit words

section
variable {S:Nat→Prop} {a w w':World}
end

section
variable {P:Program} (w:World)
end
theorem own_facts {w:World} {B:Nat} {E:TypeId} {size n:Nat} {v:Value} {xs:List Value} (h:w.ownsRow B E size v n xs):∃A c,v= .slice A n c∧n≤c∧c≤maxLen∧(A=none→n=0∧c=0):=by
 rcases h.2 with⟨rfl,rfl⟩ |⟨g,cap,cur,rfl,_,_,hle,hm,_⟩
 ·exact⟨none,0,rfl,Nat.le_refl _,Nat.zero_le _,fun _=>⟨rfl,rfl⟩⟩
 ·exact⟨_,cap,rfl,hle,hm,fun h=>by cases h⟩
theorem own_at {w:World} {B n size:Nat} {E:TypeId} {v:Value} {xs:List Value} (h:w.ownsRow B E size v n xs) {j:Nat} {u:Value} (hj:xs[j]?=some u):∃g c,v= .slice (some ⟨g,0,none⟩) n c∧B≤g∧g<w.heap.size∧w.cell? ⟨g,j,none⟩=some u:=by
 rcases h.2 with⟨rfl,rfl⟩ |⟨g,cap,cur,rfl,hb,hh,h1,h2,h3,h4⟩
 ·have:=h.1
  rw [Nat.zero_mul] at this;rw [List.eq_nil_of_length_eq_zero this] at hj;simp at hj
 ·refine⟨g,cap,rfl,hb,lt_of_some hh,?_⟩
  rw [Jaa hh,←Array.getElem?_toList];rw [←h4,List.getElem?_take] at hj;split at hj
  ·exact hj
  ·cases hj
theorem own_mono {w:World} {B B' size n:Nat} {E:TypeId} {v:Value} {xs:List Value} (h:w.ownsRow B E size v n xs) (hB:B'≤B):w.ownsRow B' E size v n xs:=by
 refine⟨h.1,?_⟩;rcases h.2 with h0 |⟨g,cap,cur,h1,h2,h3⟩
 ·exact .inl h0
 ·exact .inr ⟨g,cap,cur,h1,Nat.le_trans hB h2,h3⟩
theorem Ja4 {S:Nat} {a w w':World} {v:Value} {base n sz:Nat} {e:TypeId} {xs:List Value} (h:Below S a w) (ho:w.ownsRow base e sz v n xs) (hg:w.grownBy w' v.ownBlock) (hB:S≤base) (hs:S≤a.heap.size):Below S a w':=
 h.trans ⟨hg.os,hg.tape,hg.output,hg.size,fun k hk=>hg.block k (Nat.lt_of_lt_of_le (Nat.lt_of_lt_of_le hk hs) h.size) (fun e=>by have:=(ho.lt k e.symm).1;omega)⟩
theorem ownL {w w':World} {B size n:Nat} {E:TypeId} {v:Value} {xs:List Value} (h:w.ownsRow B E size v n xs) (hb:Below w.heap.size w w'):w'.ownsRow B E size v n xs:=by
 refine⟨h.1,?_⟩;rcases h.2 with h0 |⟨g,cap,cur,h1,h2,h3,h4⟩
 ·exact .inl h0
 ·exact .inr ⟨g,cap,cur,h1,h2,(hb.block g (lt_of_some h3)).trans h3,h4⟩
theorem add_place (b off j:Nat):(⟨b,off,none⟩:Addr).add j=⟨b,off+j,none⟩:=by unfold Addr.add;split<;>simp_all
theorem Jps (w:World) (cs:Array Value) (E:TypeId) (i:Nat):(w.alloc (.cells cs E)).cell? ((⟨w.heap.size,0,none⟩:Addr).add i)=cs[i]?:=by
 rw [add_place,Nat.zero_add];exact Jaa (heap_alloc_new w _) i
end Go.Proofs.YtcoimjbhoiipoaaGreatDoor.lru
