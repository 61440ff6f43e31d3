import Derived.Deep.AppendLies
import Derived.Test.YtkjpgheealfedaaGreatDoorChecked
import Derived.WalkSpells
import Derived.WalkLawsBesides
import Derived.Lib.Hide
import Derived.Lib.SplitLaws
import Derived.Lib.IndexAny
import Derived.Deep.RegionHeld3
set_option maxHeartbeats 800000
set_option maxRecDepth 100000
open Go.Lib (hid)
open Go.Proofs.Tryz
namespace Go.Proofs.YtkjpgheealfedaaGreatDoor.words
open Go.RowKit

open Go.RowKit in
theorem tk {P:Program} {ops:Array Oper} {Q:Exit→Act→World→Prop} {md:Region.Mode} {S:World→Prop} (i:Nat) (d:Tmp) {x2 x3 x4 x5 x6} {v:Value} {fuel:Nat} {listed:Array Bool} {a:Act} {w:World}
  (hv:∀w',S w'→(execOp a.eval ⟨some d,x2,x3,x4,x5,x6⟩).run P w'= .ok (.value v) w') (h:wpAnyH P md ops Q S fuel (listed.setIfInBounds i true) (a.put (some d) v) w) (hi:ops[i]?=some ⟨some d,x2,x3,x4,x5,x6⟩:=by rfl)
  (hk:(Region.noSelect ops&&Region.free md ops listed i&&(Region.ready md ops listed).contains i&&Region.wanted ⟨some d,x2,x3,x4,x5,x6⟩ (yielded ops a.tmps))=true:=by kernel_rfl) (hQ:∀c a w,Q (.panic c) (a.put (some d) v) w→Q (.panic c) a w:=by exact fun _ _ _ h=>h) (hS:S w:=by assumption):wpAnyH P md ops Q S (fuel+1) listed a w:=by
 simp only [Bool.and_eq_true] at hk;obtain⟨⟨⟨h1,h2⟩,h3⟩,h4⟩:=hk;exact wpAnyH_take hi h1 h2 h3 hQ (.inl ⟨h4,hv⟩) hS h
open Go.RowKit in
theorem pt:(∀(a:Act) (d:Tmp) v,a.put (some d) v={a with tmps:=a.tmps.setIfInBounds d v})∧(∀(l:List Bool) i b,l.toArray.setIfInBounds i b=(l.set i b).toArray)∧(∀(l:List Value) i b,l.toArray.setIfInBounds i b=(l.set i b).toArray)∧(∀(x:Bool) l b,(x::l).set 0 b=b::l)∧(∀(x:Value) l b,(x::l).set 0 b=b::l)∧(∀(x:Bool) l i b,(x::l).set (i+1) b=x::l.set i b)∧(∀(x:Value) l i b,(x::l).set (i+1) b=x::l.set i b):=by
 refine⟨?_,?_,?_,?_,?_,?_,?_⟩<;>intros<;>simp [Act.put]
theorem b1 {w W:Go.World} {o:Go.Obj} (h:W=w.alloc o):Go.RowKit.Below w.heap.size w W:=h▸(Go.RowKit.Below.refl _ _).alloc (Nat.le_refl _) o
theorem nm {α:Sort _} (a:α):∃b,b=a:=⟨_,rfl⟩
structure Kept (S:TypeId→Prop) (B:Nat) (w w':World):Prop where
 os:w'.os=w.os
 tape:w'.tape=w.tape
 output:w'.output=w.output
 size:w.heap.size≤w'.heap.size
 block:∀k,k<w.heap.size→(k<B∨∀cs t f,w.heap[k]?=some (.cells cs t f)→¬S t)→w'.heap[k]?=w.heap[k]?

theorem lt_of_some {w:World} {k:Nat} {o:Obj} (h:w.heap[k]?=some o):k<w.heap.size:=by
 rcases Nat.lt_or_ge k w.heap.size with hlt |hge
 ·exact hlt
 ·rw [Array.getElem?_eq_none hge] at h;cases h

section
variable {S:TypeId→Prop} {B:Nat} {a w w':World}
theorem Kept.refl (S:TypeId→Prop) (B:Nat) (w:World):Kept S B w w:=⟨rfl,rfl,rfl,Nat.le_refl _,fun _ _ _=>rfl⟩
theorem Kept.drew (h:Kept S B a w):Kept S B a w.drew:=⟨h.os,h.tape,h.output,h.size,h.block⟩
theorem Kept.drewN (h:Kept S B a w) (n:Nat):Kept S B a (w.drewN n):=⟨h.os,h.tape,h.output,h.size,h.block⟩
theorem Kept.alloc (h:Kept S B a w) (o:Obj):Kept S B a (w.alloc o):=
 ⟨h.os,h.tape,h.output,Nat.le_trans h.size (by simp),fun k hk hc=>(Below.heap_alloc w o k (Nat.lt_of_lt_of_le hk h.size)).trans (h.block k hk hc)⟩
theorem Kept.setCell (h:Kept S B a w) {p:Addr} (hB:B≤p.block) (hS:∃cs t f,w.heap[p.block]?=some (.cells cs t f)∧S t) (u:Value):Kept S B a (w.setCell p u):=by
 refine⟨h.os,h.tape,h.output,by simpa [World.setCell] using h.size,fun k hk hc=>?_⟩;by_cases hkp:k=p.block
 ·subst hkp
  obtain⟨cs,t,f,hw,hs⟩:=hS;rcases hc with hc |hc
  ·omega
  ·have:=h.block _ hk (.inr hc)
   rw [hw] at this;exact absurd hs (hc cs t f this.symm)
 ·exact (Below.heap_setCell w p u k hkp).trans (h.block k hk hc)
theorem Kept.grown {e:TypeId} {size n:Nat} {v:Value} {xs:List Value} {base:Nat} (h:Kept S B a w) (hg:w.grownBy w' v.ownBlock) (hown:w.ownsRow base e size v n xs) (hB:B≤base) (he:S e):Kept S B a w':=by
 refine⟨hg.os.trans h.os,hg.tape.trans h.tape,hg.output.trans h.output,Nat.le_trans h.size hg.size,fun k hk hc=>?_⟩;have hkw:k<w.heap.size:=Nat.lt_of_lt_of_le hk h.size;by_cases hkv:some k=v.ownBlock
 ·rcases hown.2 with⟨rfl,_⟩ |⟨g,cap,cur,rfl,hbg,hh,_⟩
  ·simp [Value.ownBlock] at hkv
  ·have hkg:k=g:=by simpa [Value.ownBlock] using hkv
   subst hkg;rcases hc with hc |hc
   ·omega
   ·have:=h.block _ hk (.inr hc)
    rw [hh] at this;exact absurd he (hc _ _ _ this.symm)
 ·exact (hg.block k hkw hkv).trans (h.block k hk hc)
theorem Kept.trans (h:Kept S B a w) (h':Kept S B w w'):Kept S B a w':=
 ⟨h'.os.trans h.os,h'.tape.trans h.tape,h'.output.trans h.output,Nat.le_trans h.size h'.size,fun k hk hc=>by
   have e:=h.block k hk hc;exact (h'.block k (Nat.lt_of_lt_of_le hk h.size) (hc.imp id fun hc cs t f hw=>hc cs t f (e.symm.trans hw))).trans e⟩
theorem Kept.mono {B':Nat} (h:Kept S B a w) (hB:B'≤B):Kept S B' a w:=
 ⟨h.os,h.tape,h.output,h.size,fun k hk hc=>h.block k hk (hc.imp (fun hc=>Nat.lt_of_lt_of_le hc hB) id)⟩
theorem Kept.below (h:Kept S B a w) (hB:B≤a.heap.size):Below B a w:=
 ⟨h.os,h.tape,h.output,h.size,fun k hk=>h.block k (Nat.lt_of_lt_of_le hk hB) (.inl hk)⟩
theorem Kept.of_below (h:Below a.heap.size a w) (S:TypeId→Prop) (B:Nat):Kept S B a w:=
 ⟨h.os,h.tape,h.output,h.size,fun k hk _=>h.block k hk⟩
theorem Kept.blk {k:Nat} {cs:Array Value} {t:TypeId} {f:Nat×Nat} (h:Kept S B a w) (hb:a.heap[k]?=some (.cells cs t f)) (hn:¬S t):w.heap[k]?=some (.cells cs t f):=
 (h.block k (lt_of_some hb) (.inr fun cs' t' f' hw=>by rw [hb] at hw;injection hw with hw;injection hw with _ ht;subst ht;exact hn)).trans hb
theorem Kept.own {base:Nat} {e:TypeId} {size n:Nat} {v:Value} {xs:List Value} (h:Kept S B a w) (hown:a.ownsRow base e size v n xs) (hn:¬S e):w.ownsRow base e size v n xs:=by
 refine⟨hown.1,?_⟩;rcases hown.2 with h0 |⟨g,cap,cur,hv,hb,hh,hr⟩
 ·exact .inl h0
 ·exact .inr ⟨g,cap,cur,hv,hb,h.blk hh hn,hr⟩
end

theorem Jaa {w:World} {g:Nat} {cs:Array Value} {t:TypeId} {f:Nat×Nat} (h:w.heap[g]?=some (.cells cs t f)) (i:Nat):w.cell? ⟨g,i,none⟩=cs[i]?:=cell_of_row w g i cs t f h
theorem Jab {w:World} {g:Nat} {cs:Array Value} {t:TypeId} (h:w.heap[g]?=some (.cells cs t (0,0))) (i:Nat):w.frozen? ⟨g,i,none⟩=false:=by
 simp [World.frozen?,h]
theorem Jhu {w:World} {g:Nat} {t:TypeId} {f:Nat×Nat} {v:Value} (h:w.heap[g]?=some (.cells #[v] t f)) (u:Value):(w.setCell ⟨g,0,none⟩ u).heap[g]?=some (.cells #[u] t f):=by
 simp [World.setCell,Array.getElem?_modify,h]
theorem Jra {w:World} {g g':Nat} {cs cs':Array Value} {t t':TypeId} {f f':Nat×Nat} (h:w.heap[g]?=some (.cells cs t f)) (h':w.heap[g']?=some (.cells cs' t' f')) (hne:t≠t'):g≠g':=by
 rintro rfl;rw [h] at h';injection h' with h';injection h' with _ ht;exact hne ht
theorem Jay {w:World} {base:Nat} {e:TypeId} {size n:Nat} {v:Value} {xs:List Value} {g:Nat} {cs:Array Value} {t:TypeId} {f:Nat×Nat} (h:w.ownsRow base e size v n xs) (hg:w.heap[g]?=some (.cells cs t f)) (hne:e≠t):v.ownBlock≠some g:=by
 rcases h.2 with⟨rfl,_⟩ |⟨g',cap,cur,rfl,_,hh,_⟩
 ·simp [Value.ownBlock]
 ·intro he
  have:g'=g:=by simpa [Value.ownBlock] using he
  subst this;exact Jra hh hg hne rfl
theorem Jaq {w:World} {base:Nat} {e:TypeId} {size n:Nat} {v:Value} {xs:List Value} {p:Addr} (h:w.ownsRow base e size v n xs) (hne:v.ownBlock≠some p.block) (u:Value):(w.setCell p u).ownsRow base e size v n xs:=by
 refine⟨h.1,?_⟩;rcases h.2 with h0 |⟨g,cap,cur,rfl,hb,hh,hr⟩
 ·exact .inl h0
 ·exact .inr ⟨g,cap,cur,rfl,hb,(Below.heap_setCell w p u g (fun e=>hne (by simp [Value.ownBlock,e]))).trans hh,hr⟩

theorem Jd1 {w:World} {base:Nat} {e:TypeId} {size n:Nat} {v:Value} {xs:List Value} (h:w.ownsRow base e size v n xs):∃A l c,v= .slice A l c:=by
 rcases h.2 with⟨rfl,_⟩ |⟨g,cap,cur,rfl,_⟩
 ·exact⟨_,_,_,rfl⟩
 ·exact⟨_,_,_,rfl⟩

end Go.Proofs.YtkjpgheealfedaaGreatDoor.words

namespace Go.Proofs.YtkjpgheealfedaaGreatDoor.ext

structure Ex where
 O:Int
 D:ByteArray
instance:Inhabited Ex:=⟨⟨0,⟨#[]⟩⟩⟩

def fitOne (size e:Int) (x:Ex):Bool:=decide (1≤x.D.size∧e≤x.O∧x.O+(x.D.size:Int)≤size)
def rightFrom (size:Int):Int→List Ex→Bool
 |_,[]=>true
 |e,x::L=>fitOne size e x&&rightFrom size (x.O+(x.D.size:Int)) L
def rightB (size:Int) (L:List Ex):Bool:=decide (0≤size∧size≤1048576)&&rightFrom size 0 L
def Cov (x:Ex) (p:Int):Prop:=x.O≤p∧p<x.O+(x.D.size:Int)
instance (x:Ex) (p:Int):Decidable (Cov x p):=by unfold Cov;exact inferInstance
def byteOf (x:Ex) (p:Int):UInt8:=x.D.data.toList.getD (p - x.O).toNat 0
def atB:List Ex→Int→UInt8
 |[],_=>0
 |x::L,p=>if Cov x p then byteOf x p else atB L p
theorem drop_at {α:Type} {L:List α} {k:Nat} {x:α} (h:L[k]?=some x):L.drop k=x::L.drop (k+1):=by
 obtain⟨hk,rfl⟩:=List.getElem?_eq_some_iff.1 h;exact List.drop_eq_getElem_cons hk
theorem take_at {α:Type} {L:List α} {k:Nat} {x:α} (h:L[k]?=some x):L.take (k+1)=L.take k++[x]:=by
 obtain⟨hk,rfl⟩:=List.getElem?_eq_some_iff.1 h;exact List.take_succ_eq_append_getElem hk

theorem Jbv (size e:Int) (x:Ex) (L:List Ex):rightFrom size e (x::L)=(fitOne size e x&&rightFrom size (x.O+(x.D.size:Int)) L):=rfl
theorem Jlw {size e:Int} {x:Ex} (h1:1≤x.D.size) (h2:e≤x.O) (h3:x.O+(x.D.size:Int)≤size):fitOne size e x=true:=decide_eq_true ⟨h1,h2,h3⟩
theorem Jo4 {size e:Int} {x:Ex} (h:¬(1≤x.D.size∧e≤x.O∧x.O+(x.D.size:Int)≤size)):fitOne size e x=false:=decide_eq_false h

theorem Jtl (x:Ex) (L:List Ex) (p:Int):atB (x::L) p=if Cov x p then byteOf x p else atB L p:=rfl
theorem Jtp {L:List Ex} (hp:L.Pairwise fun x y=>x.O+(x.D.size:Int)≤y.O) {i j:Nat} {x y:Ex} (hij:i<j) (hx:L[i]?=some x) (hy:L[j]?=some y):x.O+(x.D.size:Int)≤y.O:=by
 obtain⟨hi,rfl⟩:=List.getElem?_eq_some_iff.1 hx;obtain⟨hj,rfl⟩:=List.getElem?_eq_some_iff.1 hy;exact List.pairwise_iff_getElem.1 hp i j hi hj hij
def byteAt (s:ByteArray) (p:Nat):UInt8:=s.data.toList.getD p 0
def ofStep (s:ByteArray) (st:Nat×List Ex) (i:Nat):Nat×List Ex:=
 if i<s.size∧byteAt s i≠0 then st else (i+1,if st.1<i then st.2++[⟨(st.1:Int),s.extract st.1 i⟩] else st.2)
def ofSt (s:ByteArray) (k:Nat):Nat×List Ex:=(List.range k).foldl (ofStep s) (0,[])
def ofB (s:ByteArray):List Ex:=(ofSt s (s.size+1)).2
theorem Jgb (s:ByteArray) (k:Nat):ofSt s (k+1)=ofStep s (ofSt s k) k:=by
 unfold ofSt;rw [List.range_succ,List.foldl_append];rfl
theorem Jrf {s:ByteArray} {k:Nat} (h:k<s.size∧byteAt s k≠0):ofSt s (k+1)=ofSt s k:=by
 rw [Jgb];unfold ofStep;rw [if_pos h]
theorem Jo2 {s:ByteArray} {k:Nat} (h:¬(k<s.size∧byteAt s k≠0)) (h2:¬(ofSt s k).1<k):ofSt s (k+1)=(k+1,(ofSt s k).2):=by
 rw [Jgb];unfold ofStep;rw [if_neg h,if_neg h2]
theorem Joj {s:ByteArray} {k:Nat} (h:¬(k<s.size∧byteAt s k≠0)) (h2:(ofSt s k).1<k):ofSt s (k+1)=(k+1,(ofSt s k).2++[⟨((ofSt s k).1:Int),s.extract (ofSt s k).1 k⟩]):=by
 rw [Jgb];unfold ofStep;rw [if_neg h,if_pos h2]

def Row (s:ByteArray) (x:Ex):Prop:=∃a b:Nat,a<b∧b≤s.size∧x=⟨(a:Int),s.extract a b⟩∧∀j,a≤j→j<b→byteAt s j≠0
theorem Jeo (s:ByteArray) {a b:Nat} (h1:a≤b) (h2:b≤s.size):(s.extract a b).size=b - a:=by
 rw [ByteArray.size_extract];omega
structure OfInv (s:ByteArray) (k:Nat) (st:Nat×List Ex):Prop where
 le:st.1≤k
 on:∀j,st.1≤j→j<k→j<s.size→byteAt s j≠0
 last:st.1=k∨k≤s.size
 row:∀x∈st.2,Row s x∧x.O+(x.D.size:Int)<(st.1:Int)
 gap:st.2.Pairwise fun x y=>x.O+(x.D.size:Int)<y.O
 cov:∀p:Nat,p<st.1→p<s.size→byteAt s p≠0→∃x∈st.2,Cov x p
 count:st.2.length≤st.1
theorem ofInv (s:ByteArray):∀k,k≤s.size+1→OfInv s k (ofSt s k)
 |0,_=>⟨Nat.le_refl _,fun j _ h=>absurd h (Nat.not_lt_zero _),.inl rfl,(fun x hx=>by cases hx),List.Pairwise.nil,fun p h=>absurd h (Nat.not_lt_zero _),Nat.le_refl _⟩
 |k+1,hk=>by
  have h:=ofInv s k (by omega);by_cases ho:k<s.size∧byteAt s k≠0
  ·rw [Jrf ho]
   refine⟨Nat.le_succ_of_le h.le,fun j h1 h2 h3=>?_,.inr (by omega),h.row,h.gap,h.cov,h.count⟩;rcases Nat.lt_or_ge j k with hj |hj
   ·exact h.on j h1 hj h3
   ·obtain rfl:j=k:=by omega
    exact ho.2
  ·by_cases hf:(ofSt s k).1<k
   ·rw [Joj ho hf]
    have hks:k≤s.size:=by omega
    have hrow:Row s ⟨((ofSt s k).1:Int),s.extract (ofSt s k).1 k⟩:=⟨_,k,hf,hks,rfl,fun j h1 h2=>h.on j h1 h2 (by omega)⟩
    have hsz:((s.extract (ofSt s k).1 k).size:Int)=(k:Int) - ((ofSt s k).1:Int):=by rw [Jeo s (by omega) hks];omega
    refine⟨Nat.le_refl _,fun j h1 h2=>absurd h2 (by show ¬j<k+1;have:k+1≤j:=h1;omega),.inl rfl,fun x hx=>?_,?_,fun p h1 h2 h3=>?_,?_⟩
    ·rcases List.mem_append.1 hx with hx |hx
     ·have:=(h.row x hx).2
      have:=h.le;exact⟨(h.row x hx).1,by show _<((k+1:Nat):Int);omega⟩
     ·rw [List.mem_singleton] at hx
      subst hx;refine⟨hrow,?_⟩;show ((ofSt s k).1:Int)+((s.extract (ofSt s k).1 k).size:Int)<((k+1:Nat):Int);omega
    ·rw [List.pairwise_append]
     refine⟨h.gap,List.pairwise_singleton _ _,fun x hx y hy=>?_⟩;rw [List.mem_singleton] at hy;subst hy;exact (h.row x hx).2
    ·by_cases hp:p<(ofSt s k).1
     ·obtain⟨x,hx,hc⟩:=h.cov p hp h2 h3
      exact⟨x,List.mem_append_left _ hx,hc⟩
     ·refine⟨_,List.mem_append_right _ (List.mem_singleton.2 rfl),?_⟩
      have hpk:p≠k:=by rintro rfl;exact ho ⟨h2,h3⟩
      have:p<k+1:=h1;unfold Cov;show ((ofSt s k).1:Int)≤(p:Int)∧(p:Int)<((ofSt s k).1:Int)+((s.extract (ofSt s k).1 k).size:Int)
      omega
    ·show ((ofSt s k).2++[_]).length≤k+1
     rw [List.length_append];have:=h.count;have:=h.le;simp;omega
   ·rw [Jo2 ho hf]
    refine⟨Nat.le_refl _,fun j h1 h2=>absurd h2 (by show ¬j<k+1;have:k+1≤j:=h1;omega),.inl rfl,fun x hx=>?_,h.gap,fun p h1 h2 h3=>?_,?_⟩
    ·have:=(h.row x hx).2
     have:=h.le;exact⟨(h.row x hx).1,by show _<((k+1:Nat):Int);omega⟩
    ·have h1':p<k+1:=h1
     have hpk:p≠k:=by rintro rfl;exact ho ⟨h2,h3⟩
     exact h.cov p (by have:=h.le;omega) h2 h3
    ·show (ofSt s k).2.length≤k+1
     have:=h.count;have:=h.le;omega
theorem Jes (s:ByteArray) (a b:Nat):(s.extract a b).data.toList=(s.data.toList.take b).drop a:=by
 rw [ByteArray.data_extract,Array.toList_extract,List.extract_eq_take_drop,List.take_drop];by_cases h:a≤b
 ·rw [show a+(b - a)=b by omega]
 ·rw [show b - a=0 by omega,Nat.add_zero,List.drop_of_length_le (by rw [List.length_take];omega),List.drop_of_length_le (by rw [List.length_take];omega)]
theorem Row.byte {s:ByteArray} {x:Ex} (h:Row s x) {p:Nat} (hc:Cov x p):byteOf x p=byteAt s p:=by
 obtain⟨a,b,h1,h2,rfl,_⟩:=h;unfold Cov at hc;have hz:=Jeo s (Nat.le_of_lt h1) h2;have hc':(a:Int)≤(p:Int)∧(p:Int)<(a:Int)+((s.extract a b).size:Int):=hc;show (s.extract a b).data.toList.getD ((p:Int) - (a:Int)).toNat 0=_;unfold byteAt;rw [Jes,List.getD_eq_getElem?_getD,List.getD_eq_getElem?_getD,List.getElem?_drop,show a+((p:Int) - (a:Int)).toNat=p by omega,List.getElem?_take_of_lt (by omega)]
theorem Row.none {s:ByteArray} {x:Ex} (h:Row s x) {i:Nat} (hi:i<x.D.size):x.D.data.toList.getD i 0≠0:=by
 obtain⟨a,b,h1,h2,rfl,h3⟩:=h;have hz:=Jeo s (Nat.le_of_lt h1) h2;have hi':i<(s.extract a b).size:=hi;show (s.extract a b).data.toList.getD i 0≠0;rw [Jes,List.getD_eq_getElem?_getD,List.getElem?_drop,List.getElem?_take_of_lt (by omega),←List.getD_eq_getElem?_getD];exact h3 (a+i) (by omega) (by omega)
end Go.Proofs.YtkjpgheealfedaaGreatDoor.ext

namespace Go.Proofs.YtkjpgheealfedaaGreatDoor.name
open Go.RowKit words

def right (l:List UInt8):Bool:=decide (1≤l.length∧l.length≤64)&& !(l==[46])&& !(l==[46,46])&& !(l.contains 47)&& !(l.contains 0)

theorem size_list (s:ByteArray):s.data.toList.length=s.size:=by rw [Array.length_toList];rfl
theorem to_list (s:ByteArray):s.toList=s.data.toList:=ByteArray.toList_eq s
theorem Jf7 (s:ByteArray) (k:Nat) (h:k<s.size):s.data.toList.take (k+1)=s.data.toList.take k++[s[k]]:=by
 rw [List.take_succ_eq_append_getElem (by simpa using h)];rfl
def clean (l:List UInt8):Bool:= !(l.contains 47)&& !(l.contains 0)
theorem Jiz (l:List UInt8):clean l=true↔(47:UInt8) ∉ l∧(0:UInt8) ∉ l:=by
 unfold clean;rw [Bool.and_eq_true,Bool.not_eq_true',Bool.not_eq_true',List.contains_eq_mem,List.contains_eq_mem,decide_eq_false_iff_not,decide_eq_false_iff_not]
theorem Jml {l:List UInt8} {b:UInt8} (h:clean l=true) (h1:b≠47) (h2:b≠0):clean (l++[b])=true:=by
 rw [Jiz] at h ⊢;refine⟨fun hm=>?_,fun hm=>?_⟩
 ·rcases List.mem_append.1 hm with hm |hm
  ·exact h.1 hm
  ·exact h1 (List.mem_singleton.1 hm).symm
 ·rcases List.mem_append.1 hm with hm |hm
  ·exact h.2 hm
  ·exact h2 (List.mem_singleton.1 hm).symm
theorem Jiw {l:List UInt8} (h:(47:UInt8)∈l∨(0:UInt8)∈l):clean l=false:=by
 rw [←Bool.not_eq_true,Jiz];rintro⟨h1,h2⟩;exact h.elim h1 h2
theorem Jp1 (s:ByteArray) (k:Nat) (h:k<s.size):s[k]∈s.data.toList:=by
 have:s[k]=s.data.toList[k]'(by rw [size_list];exact h):=rfl;rw [this];exact List.getElem_mem _
theorem right_eq (l:List UInt8):right l=(decide (1≤l.length∧l.length≤64)&& !(l==[46])&& !(l==[46,46])&&clean l):=by
 unfold right clean;simp only [Bool.and_assoc]
theorem Jkk {l:List UInt8} (h1:1≤l.length) (h2:l.length≤64) (h3:l≠[46]) (h4:l≠[46,46]):right l=clean l:=by
 have e3:(l==[46])=false:=by simpa using h3
 have e4:(l==[46,46])=false:=by simpa using h4
 rw [right_eq,e3,e4,decide_eq_true ⟨h1,h2⟩];rfl
theorem Jaw {l:List UInt8} (h:l=[]∨l=[46]∨l=[46,46]∨64<l.length):right l=false:=by
 rw [right_eq];rcases h with rfl |rfl |rfl |h
 ·rfl
 ·rfl
 ·rfl
 ·rw [decide_eq_false (by omega)];rfl
theorem Jbf (s:ByteArray) (w:World) (hs:s.size≤9223372036854775807):Calls prog 105 #[.string s] w fun e w'=>e= .returned (.bool (right s.data.toList))∧w=w':=by
 by_cases e0:s.toList=[]
 ·have hr:right s.data.toList=false:=Jaw (.inl (by rw [←to_list];exact e0))
  have f0:s.toList.isEmpty=true:=by rw [e0];rfl
  rw [hr];go_enter func105,ntmps105
  go_wp2
  go_ret
  exact⟨rfl,rfl⟩
 ·have f0:s.toList.isEmpty=false:=by simpa using e0
  by_cases e1:s.toList=[46]
  ·have hr:right s.data.toList=false:=Jaw (.inr (.inl (by rw [←to_list];exact e1)))
   have f1:(s.toList==[46])=true:=by rw [e1];rfl
   rw [hr];clear e1;go_enter func105,ntmps105
   go_wp2
   go_ret
   exact⟨rfl,rfl⟩
  ·have f1:(s.toList==[46])=false:=by simpa using e1
   by_cases e2:s.toList=[46,46]
   ·have hr:right s.data.toList=false:=Jaw (.inr (.inr (.inl (by rw [←to_list];exact e2))))
    have f2:(s.toList==[46,46])=true:=by rw [e2];rfl
    rw [hr];clear e2;go_enter func105,ntmps105
    go_wp2
    go_ret
    exact⟨rfl,rfl⟩
   ·have f2:(s.toList==[46,46])=false:=by simpa using e2
    by_cases e3:64<s.size
    ·have hr:right s.data.toList=false:=Jaw (.inr (.inr (.inr (by rw [size_list];exact e3))))
     rw [hr];go_enter func105,ntmps105
     go_wp2
     go_ret
     exact⟨rfl,rfl⟩
    ·have hl:s.data.toList.length=s.size:=size_list s
     have h1:1≤s.size:=by
      rcases Nat.eq_zero_or_pos s.size with h0 |h0
      ·exact absurd (by rw [to_list];exact List.eq_nil_of_length_eq_zero (by omega)) e0
      ·exact h0
     have hr:right s.data.toList=clean s.data.toList:=Jkk (by omega) (by omega) (by rw [←to_list];exact e1) (by rw [←to_list];exact e2);rw [hr];have d3:decide (64<(s.size:Int))=false:=by simp;omega
     clear hr hl;go_enter func105,ntmps105
     go_wp2
     clear f0 f1 f2 d3 e0 e1 e2;go_loop [3] (fun c=>∃k:Nat,k≤s.size∧c= .int .i64 k∧clean (s.data.toList.take k)=true) (fun c=>s.size - (intOf c).toNat)
     case atStart=>exact⟨0,Nat.zero_le _,rfl,rfl⟩
     case round=>
      obtain⟨k,hk,rfl,hc⟩:=hrel;have HC:=hid hc;clear hc;by_cases hlt:k<s.size
      ·have HS:=hid (Jf7 s k hlt)
       have HM:=hid (Jp1 s k hlt);by_cases c1:s[k]=47
       ·have g1:((s[k].toNat:Int)==47)=true:=by rw [c1];rfl
        have HF:=hid (show clean s.data.toList=false from Jiw (.inl (by rw [←c1];exact HM.out)));clear c1;go_wp2
        go_ret
        exact⟨by rw [HF.out];rfl,rfl⟩
       ·have g1:((s[k].toNat:Int)==47)=false:=by
         rw [beq_eq_false_iff_ne];intro e;exact c1 (UInt8.toNat_inj.1 (by simpa using Int.ofNat_inj.1 e))
        by_cases c2:s[k]=0
        ·have g2:((s[k].toNat:Int)==0)=true:=by rw [c2];rfl
         have HF:=hid (show clean s.data.toList=false from Jiw (.inr (by rw [←c2];exact HM.out)));clear c1 c2;go_wp2
         go_ret
         exact⟨by rw [HF.out];rfl,rfl⟩
        ·have g2:((s[k].toNat:Int)==0)=false:=by
          rw [beq_eq_false_iff_ne];intro e;exact c2 (UInt8.toNat_inj.1 (by simpa using Int.ofNat_inj.1 e))
         have HN:=hid (Jml HC.out c1 c2);clear c1 c2;go_wp2
         go_round
         case rel=>exact⟨k+1,by omega,by go_num,by rw [HS.out];exact HN.out⟩
         case measure=>simp [intOf];omega
      ·have HT:=hid (show clean s.data.toList=true by have:=HC.out;rwa [List.take_of_length_le (by rw [size_list];omega)] at this)
       go_wp2
       go_ret
       exact⟨by rw [HT.out];rfl,rfl⟩
end Go.Proofs.YtkjpgheealfedaaGreatDoor.name

namespace Go.Proofs.YtkjpgheealfedaaGreatDoor.name

def cut:List UInt8→List (List UInt8)
 |[]=>[[]]
 |b::l=>if b=47 then []::cut l else match cut l with
  |[]=>[[b]]
  |p::r=>(b::p)::r
theorem Jq7:∀l,cut l≠[]
 |[]=>by simp [cut]
 |b::l=>by
  unfold cut;split
  ·simp
  ·split<;>simp
theorem Jib:∀l:List UInt8,Lib.splitK [47] 0 (Lib.count l [47]) l=cut l
 |[]=>by rw [Lib.count_one];rfl
 |b::l=>by
  have ih:=Jib l;by_cases hb:b=47
  ·subst hb
   have hix:Lib.index (47::l) [47]=0:=by rw [Lib.index_one];simp [Lib.indexByte]
   rw [Lib.count_cons_eq,Nat.add_comm 1,Lib.splitK,if_neg (by rw [hix];decide),hix,cut,if_pos rfl,←ih];rfl
  ·rw [Lib.count_cons_ne b 47 l hb,cut,if_neg hb,←ih]
   rcases hn:Lib.count l [47] with _ |k
   ·rfl
   ·have hpos:Lib.index l [47]≠ -1:=fun e=>by
     have:=Lib.count_miss e;omega
    have hge: -1≤Lib.index l [47]:=by rw [Lib.index_one];exact Lib.indexByte_ge _ _
    obtain⟨i,hi⟩:∃i:Nat,Lib.index l [47]=i:=⟨(Lib.index l [47]).toNat,by omega⟩
    have hib:Lib.indexByte l 47=(i:Int):=by rw [←Lib.index_one];exact hi
    have hi2:Lib.index (b::l) [47]=((i+1:Nat):Int):=by
     have e1:(b==(47:UInt8))=false:=by simpa using hb
     rw [Lib.index_one,Lib.indexByte,e1,hib];have e2:((i:Int)== -1)=false:=by rw [beq_eq_false_iff_ne];omega
     rw [e2];simp
    rw [Lib.splitK,if_neg (by rw [hi2,beq_iff_eq];omega),hi2,Lib.splitK,if_neg (by rw [hi,beq_iff_eq];omega),hi];simp
theorem Jmj (s:ByteArray):(Lib.splitB ⟨#[47]⟩ 0 (Lib.countB s ⟨#[47]⟩) s).map (fun x=>x.data.toList)=cut s.data.toList:=by
 have h:=Lib.splitB_data ⟨#[47]⟩ 0 (Lib.countB s ⟨#[47]⟩) s;rw [←Jib];exact h

def idle (p:List UInt8):Bool:=p==[]||p==[46]
def bad (p:List UInt8):Bool:= !idle p&& !(p==[46,46])&& !right p
def parts (l:List UInt8):Option (List (List UInt8)):=if l.length<1∨1024<l.length∨(cut l).any bad=true then none else some ((cut l).filter fun p=> !idle p)
end Go.Proofs.YtkjpgheealfedaaGreatDoor.name

namespace Go.Proofs.YtkjpgheealfedaaGreatDoor.tre
open Go.RowKit ext name

inductive Nd where
 |mk (K:Int) (O:Bool) (N:List ByteArray) (I:List Nd) (S:Int) (E:List Ex) (T:ByteArray)
def Nd.K:Nd→Int | .mk K _ _ _ _ _ _=>K
def Nd.O:Nd→Bool | .mk _ O _ _ _ _ _=>O
def Nd.N:Nd→List ByteArray | .mk _ _ N _ _ _ _=>N
def Nd.I:Nd→List Nd | .mk _ _ _ I _ _ _=>I
def Nd.S:Nd→Int | .mk _ _ _ _ S _ _=>S
def Nd.E:Nd→List Ex | .mk _ _ _ _ _ E _=>E
def Nd.T:Nd→ByteArray | .mk _ _ _ _ _ _ T=>T
mutual
def count:Nd→Nat
 | .mk _ _ _ I _ _ _=>1+countL I
def countL:List Nd→Nat
 |[]=>0
 |x::L=>count x+countL L
end
mutual
def depth:Nd→Nat
 | .mk _ _ _ I _ _ _=>depthL I
def depthL:List Nd→Nat
 |[]=>0
 |x::L=>max (depth x+1) (depthL L)
end
theorem Jbq (n:Nd):count n=1+countL n.I:=by cases n;rw [count];rfl
theorem Ja0 (n:Nd):depth n=depthL n.I:=by cases n;rw [depth];rfl
theorem Jai (x:Nd) (L:List Nd):countL (x::L)=count x+countL L:=by rw [countL]
theorem Jao:countL []=0:=by rw [countL]
theorem Jam (x:Nd) (L:List Nd):depthL (x::L)=max (depth x+1) (depthL L):=by rw [depthL]
theorem Jb0:depthL []=0:=by rw [depthL]
theorem Jbp:∀{L:List Nd} {i:Nat} {x:Nd},L[i]?=some x→depth x+1≤depthL L
 |[],i,x,h=>by simp at h
 |y::L,0,x,h=>by
  obtain rfl:y=x:=by simpa using h
  rw [Jam];exact Nat.le_max_left _ _
 |y::L,i+1,x,h=>by
  have:=Jbp (L:=L) (i:=i) (x:=x) (by simpa using h);rw [Jam];exact Nat.le_trans this (Nat.le_max_right _ _)
section
variable (st:Nd→Int→Int→Bool×Int)
mutual
def eachS:Nd→Int→Int→Bool×Int
 | .mk K O N I S E T,d,c=>if (st (.mk K O N I S E T) d c).1=true then eachL I (d+1) (st (.mk K O N I S E T) d c).2 else (false,(st (.mk K O N I S E T) d c).2)
def eachL:List Nd→Int→Int→Bool×Int
 |[],_,c=>(true,c)
 |x::L,d,c=>if (eachS x d c).1=true then eachL L d (eachS x d c).2 else (false,(eachS x d c).2)
end
theorem Jd9 (n:Nd) (d c:Int):eachS st n d c=if (st n d c).1=true then eachL st n.I (d+1) (st n d c).2 else (false,(st n d c).2):=by cases n;rw [eachS];rfl
theorem Jdq (d c:Int):eachL st [] d c=(true,c):=by rw [eachL]
theorem Jby (x:Nd) (L:List Nd) (d c:Int):eachL st (x::L) d c=if (eachS st x d c).1=true then eachL st L d (eachS st x d c).2 else (false,(eachS st x d c).2):=by rw [eachL]
end

def spend (l:Int) (n:Nd):Int:=wrap64 (n.E.foldl (fun a x=>wrap64 (a - (x.D.size:Int))) (wrap64 (l - (1+(n.N.length:Int)+(n.E.length:Int)))) - (n.T.size:Int))
mutual
def smallS:Nd→Int→Int→Bool×Int
 | .mk K O N I S E T,d,l=>if spend l (.mk K O N I S E T)<0∨d<0 then (false,spend l (.mk K O N I S E T)) else smallL I (d - 1) (spend l (.mk K O N I S E T))
def smallL:List Nd→Int→Int→Bool×Int
 |[],_,l=>(true,l)
 |x::L,d,l=>if (smallS x d l).1=true then smallL L d (smallS x d l).2 else (false,(smallS x d l).2)
end
theorem Jdy (n:Nd) (d l:Int):smallS n d l=if spend l n<0∨d<0 then (false,spend l n) else smallL n.I (d - 1) (spend l n):=by cases n;rw [smallS];rfl
theorem Jef (d l:Int):smallL [] d l=(true,l):=by rw [smallL]
theorem Jb6 (x:Nd) (L:List Nd) (d l:Int):smallL (x::L) d l=if (smallS x d l).1=true then smallL L d (smallS x d l).2 else (false,(smallS x d l).2):=by rw [smallL]
def smallB (n:Nd):Bool:=(smallS n 30 400).1

def lessB (a b:ByteArray):Bool:=Op.bytesLess a.toList b.toList
def riseFrom:Option ByteArray→List ByteArray→Bool
 |_,[]=>true
 |p,s::L=>(right s.data.toList&&(match p with |none=>true |some q=>lessB q s))&&riseFrom (some s) L
def riseB (N:List ByteArray):Bool:=riseFrom none N
def pathB (s:ByteArray):Bool:=(parts s.data.toList).isSome&&decide (s.size≤256)
def noneB (n:Nd):Bool:= !n.O&&n.N.length==0&&n.I.length==0
def emptyB (n:Nd):Bool:=n.S==0&&n.E.length==0
def oneB (n:Nd):Bool:=
 if n.K=1 then noneB n&&n.T.size==0&&rightB n.S n.E
 else if n.K=2 then emptyB n&&n.T.size==0&&(n.N.length==n.I.length&&riseB n.N)
 else if n.K=3 then noneB n&&emptyB n&&pathB n.T
 else if n.K=4 then noneB n&&emptyB n&&n.T.size==0
 else false
mutual
def allB:Nd→Bool
 | .mk K O N I S E T=>allL I&&oneB (.mk K O N I S E T)
def allL:List Nd→Bool
 |[]=>true
 |x::L=>allB x&&allL L
end
theorem Jec (n:Nd):allB n=(allL n.I&&oneB n):=by cases n;rw [allB];rfl
theorem Jky:allL []=true:=by rw [allL]
theorem Jb2 (x:Nd) (L:List Nd):allL (x::L)=(allB x&&allL L):=by rw [allL]
def stR (n:Nd) (d c:Int):Bool×Int:=(decide (wrap64 (c+1)≤4096)&&decide (d≤15)&&oneB n,wrap64 (c+1))
def stC (_:Nd) (d c:Int):Bool×Int:=(decide (d≤65536),wrap64 (c+1))
def stE (_:Nd) (d c:Int):Bool×Int:=(decide (d≤65536),c)
def treeB (n:Nd):Bool:=n.K==2&&(eachS stR n 0 0).1
def refB (n:Nd):Bool:=n.K==2&&allB n&&decide (wrap64 (count n:Int)≤4096)&&decide (depth n≤15)

theorem Jf6 {n:Int} (h: -9223372036854775808≤n∧n≤9223372036854775807):wrap64 n=n:=by rw [←IntWalk.i64_left];exact IntWalk.i64_in n h
end Go.Proofs.YtkjpgheealfedaaGreatDoor.tre
