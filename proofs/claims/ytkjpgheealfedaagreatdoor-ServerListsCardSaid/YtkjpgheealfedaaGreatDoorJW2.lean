import Derived.Test.YtkjpgheealfedaaGreatDoorJA
import Derived.Test.YtkjpgheealfedaaGreatDoorJW0
set_option maxRecDepth 100000
namespace Go.Proofs.YtkjpgheealfedaaGreatDoor.heap
open Go.RowKit words

structure Hd where
 s:ByteArray
 r:Nat
 A:Option Addr
 c:Nat
 t:List ByteArray
def Hd.it (h:Hd):It:=(h.s,h.r)
def Hd.its (h:Hd):List It:=h.it::h.t.map fun s=>(s,h.r)
def hdCells (h:Hd):List Value:=[.string h.s,.int .i64 (h.r:Int),.slice h.A h.t.length h.c]
def ltH (a b:Hd):Prop:=ltI a.it b.it
theorem Jbh:Ord ltH:=⟨fun _ _=>Jjj.asym _ _,fun _ _ _=>Jjj.neg _ _ _⟩
def ltHB (a b:Hd):Bool:=ltB a.s b.s||(a.s.toList==b.s.toList&&decide (a.r<b.r))
theorem Jkq (a b:Hd):ltHB a b=true↔ltH a b:=by
 unfold ltHB ltH ltI Hd.it;rw [Bool.or_eq_true,Bool.and_eq_true,beq_iff_eq,decide_eq_true_eq];exact⟨fun h=>h.imp id fun h=>⟨toList_inj h.1,h.2⟩,fun h=>h.imp id fun h=>⟨congrArg ByteArray.toList h.1,h.2⟩⟩
theorem Jd7 {a b:Hd} (h:ltHB a b=true):ltH a b:=(Jkq a b).1 h
theorem Jf3 {a b:Hd} (h:ltHB a b=false):¬ltH a b:=fun hc=>by rw [(Jkq a b).2 hc] at h;cases h

def Row (w:World) (B:Nat) (A:Option Addr) (N:List ByteArray):Prop:=
 ∀i s,N[i]?=some s→∃b off,A=some ⟨b,off,none⟩∧b<B∧w.cell? ⟨b,off+i,none⟩=some (.string s)
theorem Row.keep {w w':World} {B:Nat} {A:Option Addr} {N:List ByteArray} (h:Row w B A N) (hb:Below B w w'):Row w' B A N:=fun i s hs=>by
 obtain⟨b,off,h1,h2,h3⟩:=h i s hs;exact⟨b,off,h1,h2,(hb.cell (p:=⟨b,off+i,none⟩) h2).trans h3⟩
theorem Row.more {w:World} {B B':Nat} {A:Option Addr} {N:List ByteArray} (h:Row w B A N) (hB:B≤B'):Row w B' A N:=fun i s hs=>by
 obtain⟨b,off,h1,h2,h3⟩:=h i s hs;exact⟨b,off,h1,Nat.lt_of_lt_of_le h2 hB,h3⟩
theorem Row.nil (w:World) (B:Nat) (A:Option Addr):Row w B A []:=fun i s hs=>by simp at hs
theorem Row.tail {w:World} {B b off:Nat} {s:ByteArray} {t:List ByteArray} (h:Row w B (some ⟨b,off,none⟩) (s::t)):Row w B (some ⟨b,off+1,none⟩) t:=fun i x hx=>by
 obtain⟨b',off',h1,h2,h3⟩:=h (i+1) x (by simpa using hx);injection h1 with h1;injection h1 with e1 e2;subst e1 e2;exact⟨_,_,rfl,h2,by rw [show off+1+i=off+(i+1) by omega];exact h3⟩

theorem Jhr:∀{K:List Hd} {k:Nat} {h:Hd},K[k]?=some h→∀j,j<3→(K.flatMap hdCells)[k*3+j]?=(hdCells h)[j]?
 |[],k,h,hk,_,_=>by simp at hk
 |x::K,k,h,hk,j,hj=>by
  rw [List.flatMap_cons];rcases k with _ |k
  ·obtain rfl:x=h:=by simpa using hk
   rw [List.getElem?_append_left (by simp [hdCells];omega),Nat.zero_mul,Nat.zero_add]
  ·rw [List.getElem?_append_right (by simp [hdCells];omega),←Jhr (K:=K) (k:=k) (by simpa using hk) j hj]
   congr 1;simp [hdCells];omega
theorem Jiq:∀{K:List Hd} {k:Nat} (h:Hd),k<K.length→(((K.flatMap hdCells).set (k*3) (.string h.s)).set (k*3+1) (.int .i64 (h.r:Int))).set (k*3+2) (.slice h.A h.t.length h.c)=(K.set k h).flatMap hdCells
 |[],k,h,hk=>by simp at hk
 |x::K,k,h,hk=>by
  rcases k with _ |k
  ·simp [hdCells]
  ·have ih:=Jiq (K:=K) (k:=k) h (by simpa using hk)
   rw [List.set_cons_succ,List.flatMap_cons,List.flatMap_cons,←ih];rw [List.set_append_right _ _ (by simp [hdCells];omega),List.set_append_right _ _ (by simp [hdCells];omega),List.set_append_right _ _ (by simp [hdCells];omega)];congr 1;simp only [hdCells,List.length_cons,List.length_nil];rw [show (k+1)*3 - (0+1+1+1)=k*3 by omega,show (k+1)*3+1 - (0+1+1+1)=k*3+1 by omega,show (k+1)*3+2 - (0+1+1+1)=k*3+2 by omega]

theorem own_cell {w:World} {base:Nat} {e:TypeId} {size n:Nat} {v:Value} {xs:List Value} (h:w.ownsRow base e size v n xs) {j:Nat} {u:Value} (hj:xs[j]?=some u):
  ∃g cap,v= .slice (some ⟨g,0,none⟩) n cap∧base≤g∧g<w.heap.size∧n≤cap∧cap≤maxLen∧w.cell? ⟨g,j,none⟩=some u∧w.frozen? ⟨g,j,none⟩=false:=by
 rcases h.2 with⟨_,rfl⟩ |⟨g,cap,cur,rfl,hb,hh,h1,h2,h3,h4⟩
 ·have:=h.1
  rw [Nat.zero_mul] at this;rw [List.eq_nil_of_length_eq_zero this] at hj;simp at hj
 ·refine⟨g,cap,rfl,hb,lt_of_some hh,h1,h2,?_,Jab hh j⟩
  rw [Jaa hh,←Array.getElem?_toList];rw [←h4,List.getElem?_take] at hj;split at hj
  ·exact hj
  ·cases hj
theorem Jge {w:World} {base:Nat} {e:TypeId} {size n g cap:Nat} {xs:List Value} (h:w.ownsRow base e size (.slice (some ⟨g,0,none⟩) n cap) n xs) (j:Nat) (u:Value):
  (w.setCell ⟨g,j,none⟩ u).ownsRow base e size (.slice (some ⟨g,0,none⟩) n cap) n (xs.set j u):=by
 rcases h.2 with⟨h0,_⟩ |⟨g',cap',cur,hv,hb,hh,h1,h2,h3,h4⟩
 ·injection h0 with h0
  cases h0
 ·injection hv with e1 _ e3
  injection e1 with e1;injection e1 with e1;subst e1 e3;refine⟨by rw [List.length_set];exact h.1,.inr ⟨g,cap,cur.setIfInBounds j u,rfl,hb,heap_setCell_same w g j cur e u hh,h1,h2,by rw [Array.size_setIfInBounds];exact h3,?_⟩⟩;rw [Array.toList_setIfInBounds,←h4,List.take_set]
theorem Jnv {w:World} {base:Nat} {e:TypeId} {size n g cap:Nat} {xs:List Value} (h:w.ownsRow base e size (.slice (some ⟨g,0,none⟩) n cap) n xs) (m:Nat) (hm:m≤n):
  w.ownsRow base e size (.slice (some ⟨g,0,none⟩) m cap) m (xs.take (m*size)):=by
 rcases h.2 with⟨h0,_⟩ |⟨g',cap',cur,hv,hb,hh,h1,h2,h3,h4⟩
 ·injection h0 with h0
  cases h0
 ·injection hv with e1 _ e3
  injection e1 with e1;injection e1 with e1;subst e1 e3;have hle:m*size≤n*size:=Nat.mul_le_mul_right _ hm;refine⟨by rw [List.length_take,h.1];omega,.inr ⟨g,cap,cur,rfl,hb,hh,by omega,h2,h3,?_⟩⟩;rw [←h4,List.take_take];congr 1;omega
theorem Jmf (K:List Hd) (m:Nat):(K.flatMap hdCells).take (m*3)=(K.take m).flatMap hdCells:=by
 induction K generalizing m with
 |nil=>simp
 |cons h K ih=>
  rcases m with _ |m
  ·simp
  ·rw [List.flatMap_cons,List.take_succ_cons,List.flatMap_cons,←ih m,List.take_append,show (hdCells h).length=3 from rfl,show (m+1)*3 - 3=m*3 by omega,List.take_of_length_le (by simp [hdCells];omega)]
end Go.Proofs.YtkjpgheealfedaaGreatDoor.heap
