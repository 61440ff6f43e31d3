import Derived.Test.YtekekhgjobahaaaGreatDoorProg
import Derived.WalkKit
import Derived.Deep.AppendLies
import Derived.Deep.Draws
import Derived.Lib.UnsafeStr
import Derived.Lib.Hide
import Derived.Deep.RegionHeld3
set_option maxRecDepth 100000
namespace Go.Proofs.YtekekhgjobahaaaGreatDoor.held
open Go
variable {P:Program} {ops:Array Oper} {Q:Exit→Act→World→Prop} {md:Region.Mode} {S:World→Prop} {T:Nat→Bool}

def wpT (P:Program) (md:Region.Mode) (ops:Array Oper) (Q:Exit→Act→World→Prop) (S:World→Prop) (T:Nat→Bool):Nat→Array Bool→Act→World→Prop
 |0,L,a,w=>Region.ready md ops L=[]∧Q .normal a w
 |n+1,L,a,w=>(Region.ready md ops L=[]→Q .normal a w)∧∀i∈Region.ready md ops L,wpOp P ops Q i (fun a' w'=>(T i=false→S w→S w')∧wpT P md ops Q S T n (L.setIfInBounds i true) a' w') a w
theorem Jrd:∀(n:Nat) (L:Array Bool) (a:Act) (w:World),wpT P md ops Q S T n L a w→wpAny P md ops Q n L a w
 |0,_,_,_,h=>h
 |n+1,_,_,_,h=>⟨h.1,fun i hi=>wpOp_mono (fun a' w' k=>Jrd n _ a' w' k.2) (h.2 i hi)⟩
theorem unlisted {i:Nat} {L:Array Bool} (h:L.getD i true=false):¬L.getD i false=true:=by
 rcases Nat.lt_or_ge i L.size with k |k
 ·simp [k] at h ⊢
  exact h
 ·simp [Array.getElem?_eq_none k] at h
theorem Jkf {S0:World→Prop} {i:Nat} {oi:Oper} {v:Value} (hi:ops[i]?=some oi) (hsel:∀(j:Nat) (o:Oper) cs b,ops[j]?=some o→o.op≠ .select cs b)
  (hQ:∀c a w,Q (.panic c) (a.put oi.dst v) w→Q (.panic c) a w)
  (h0:∀(L:Array Bool) (j:Nat),j∈Region.ready md ops L→L.getD i true=false→∀w w',S0 w→(T j=false→S w→S w')→S0 w'):
  ∀(n:Nat) (L:Array Bool) (a:Act) (w:World),
   (∀j oj,ops[j]?=some oj→j≠i→L.getD j true=false→(∀e∈oj.after,Region.binds md e=true→e.on≠i)→oi.apart ops oj=true)→
   i∈Region.ready md ops L→YieldsIf P ops S0 oi v a→S0 w→
   wpT P md ops Q S T n (L.setIfInBounds i true) (a.put oi.dst v) w→wpT P md ops Q S T (n+1) L a w:=by
 intro n
 induction n with
 |zero=>
  intro L a w _ hr hy hs H;refine⟨fun h=>absurd (h▸hr) (by simp),fun j hj=>?_⟩;by_cases e:j=i
  ·subst e
   exact hy.wpOp hi hs ⟨fun _ h=>h,H⟩
  ·have k:=ready_mono hj e
   rw [H.1] at k;cases k
 |succ n ih=>
  intro L a w hfree hr hy hs H;refine⟨fun h=>absurd (h▸hr) (by simp),fun j hj=>?_⟩;by_cases e:j=i
  ·subst e
   exact hy.wpOp hi hs ⟨fun _ h=>h,H⟩
  ·have k:=H.2 j (ready_mono hj e)
   obtain⟨hjl,oj,hoj,hall⟩:=mem_ready.1 hj;have hil:L.getD i true=false:=(mem_ready.1 hr).1;have hno:∀x∈oj.after,Region.binds md x=true→x.on≠i:=fun x hx hb he=>by
    have:=hall x hx hb;rw [he] at this;exact unlisted hil this
   have k2:=wpOp_putIf hoj (hfree j oj hoj e hjl hno) (fun cs b=>hsel i oi cs b hi) (fun cs b=>hsel j oj cs b hoj) hQ hy k;have hfree':∀q oq,ops[q]?=some oq→q≠i→(L.setIfInBounds j true).getD q true=false→(∀x∈oq.after,Region.binds md x=true→x.on≠i)→oi.apart ops oq=true:=fun q oq hq hqi hun hn=>by
    refine hfree q oq hq hqi ?_ hn;by_cases hjq:j=q
    ·subst hjq
     exact hjl
    ·rw [getD_set_ne true hjq] at hun
     exact hun
   refine wpOp_mono (fun a' w' k3=>⟨k3.2.1,?_⟩) k2;have hs':S0 w':=h0 L j hj hil w w' hs k3.2.1;refine ih (L.setIfInBounds j true) a' w' hfree' (ready_mono hr (Ne.symm e)) k3.1 hs' ?_;rw [Array.setIfInBounds_comm _ _ e];exact k3.2.2
theorem wpT_take {i:Nat} {oi:Oper} {v:Value} {n:Nat} {L:Array Bool} {a:Act} {w:World} (hi:ops[i]?=some oi) (hs:Region.noSelect ops=true) (hf:Region.free md ops L i=true) (hr:(Region.ready md ops L).contains i=true)
  (hQ:∀c a w,Q (.panic c) (a.put oi.dst v) w→Q (.panic c) a w) (hy:YieldsIf P ops (fun _=>True) oi v a)
  (h:wpT P md ops Q S T n (L.setIfInBounds i true) (a.put oi.dst v) w):wpT P md ops Q S T (n+1) L a w:=
 Jkf (S0:=fun _=>True) hi (Region.noSelect_spec hs) hQ (fun _ _ _ _ _ _ _ _=>trivial) n L a w (Region.free_spec hi hf) (by simpa using hr) hy trivial h
def waits (md:Region.Mode) (ops:Array Oper) (T:Nat→Bool) (i:Nat):Bool:=(List.range ops.size).all fun j=> !T j||match ops[j]? with |some o=>o.after.any (fun e=>Region.binds md e&&e.on==i) |none=>true
theorem wpT_load {i:Nat} {oi:Oper} {v:Value} {n:Nat} {L:Array Bool} {a:Act} {w:World} (hi:ops[i]?=some oi) (hs:Region.noSelect ops=true) (hf:Region.free md ops L i=true) (hr:(Region.ready md ops L).contains i=true)
  (hQ:∀c a w,Q (.panic c) (a.put oi.dst v) w→Q (.panic c) a w) (hw:waits md ops T i=true) (hy:YieldsIf P ops S oi v a) (hS:S w)
  (h:wpT P md ops Q S T n (L.setIfInBounds i true) (a.put oi.dst v) w):wpT P md ops Q S T (n+1) L a w:=by
 refine Jkf (S0:=S) hi (Region.noSelect_spec hs) hQ (fun L j hj hil w w' hs hk=>?_) n L a w (Region.free_spec hi hf) (by simpa using hr) hy hS h;rcases hTj:T j with _ |_
 ·exact hk hTj hs
 ·exfalso
  obtain⟨_,oj,hoj,hall⟩:=mem_ready.1 hj;have hlt:j<ops.size:=(Array.getElem?_eq_some_iff.1 hoj).1;have k:=List.all_eq_true.1 hw j (List.mem_range.2 hlt);rw [hTj,hoj] at k;have k2:oj.after.any (fun e=>Region.binds md e&&e.on==i)=true:=by simpa using k
  obtain⟨x,hx,hb⟩:=Array.any_eq_true'.1 k2;rw [Bool.and_eq_true,beq_iff_eq] at hb;have:=hall x hx hb.1;rw [hb.2] at this;exact unlisted hil this
theorem wpT_done {L:Array Bool} {a:Act} {w:World} (hr:Region.ready md ops L=[]) (h:Q .normal a w):∀n,wpT P md ops Q S T n L a w
 |0=>⟨hr,h⟩
 |_+1=>⟨fun _=>h,by rw [hr];simp⟩
theorem wpT_one {i:Nat} {o:Oper} {n:Nat} {L:Array Bool} {a:Act} {w0:World} (hr:Region.ready md ops L=[i]) (ho:ops[i]?=some o)
  (h:∀K':Act→World→Prop,Shut (∀a w,(T i=false→S w0→S w)→wpT P md ops Q S T n (L.setIfInBounds i true) a w→K' a w)→if Region.wanted o (yielded ops a.tmps)=true then Oper.wp P o a w0 K' Q else K' (a.put o.dst undef) w0):wpT P md ops Q S T (n+1) L a w0:=by
 refine⟨fun h0=>(by rw [hr] at h0;cases h0),fun j hj=>?_⟩;rw [hr] at hj;obtain rfl:=List.mem_singleton.1 hj;exact wpOp_step ho fun K' hK=>h K' fun a w h1 h2=>hK a w ⟨h1,h2⟩
theorem wpT_two {i j:Nat} {o p:Oper} {n:Nat} {L:Array Bool} {a:Act} {w0:World} (hr:Region.ready md ops L=[i,j]) (ho:ops[i]?=some o) (hp:ops[j]?=some p)
  (h:∀K':Act→World→Prop,Shut (∀a w,(T i=false→S w0→S w)→wpT P md ops Q S T n (L.setIfInBounds i true) a w→K' a w)→if Region.wanted o (yielded ops a.tmps)=true then Oper.wp P o a w0 K' Q else K' (a.put o.dst undef) w0)
  (k:∀K':Act→World→Prop,Shut (∀a w,(T j=false→S w0→S w)→wpT P md ops Q S T n (L.setIfInBounds j true) a w→K' a w)→if Region.wanted p (yielded ops a.tmps)=true then Oper.wp P p a w0 K' Q else K' (a.put p.dst undef) w0):wpT P md ops Q S T (n+1) L a w0:=by
 refine⟨fun h0=>(by rw [hr] at h0;cases h0),fun q hq=>?_⟩;rw [hr] at hq;rcases List.mem_cons.1 hq with rfl |hq
 ·exact wpOp_step ho fun K' hK=>h K' fun a w h1 h2=>hK a w ⟨h1,h2⟩
 ·obtain rfl:=List.mem_singleton.1 hq
  exact wpOp_step hp fun K' hK=>k K' fun a w h1 h2=>hK a w ⟨h1,h2⟩
theorem wpT_start {id:Nat} {a:Act} {w:World} (hm:P.follows .mixedOrders=true) (h:wpT P .any ops Q S T ops.size (Array.replicate ops.size false) a w.drew):(Code.region id ops true).wp P Q a w:=
 wp_region_any hm (Jrd _ _ _ _ h)
end Go.Proofs.YtekekhgjobahaaaGreatDoor.held

namespace Go.Proofs.YtekekhgjobahaaaGreatDoor.words
open Go.RowKit

open Go.RowKit in
theorem tk {P:Program} {ops:Array Oper} {Q:Exit→Act→World→Prop} {md:Region.Mode} {S:World→Prop} (i:Nat) (d:Tmp) {x2 x3 x4 x5 x6} {v:Value} {fuel:Nat} {listed:Array Bool} {a:Act} {w:World}
  (hv:∀w',S w'→(execOp a.eval ⟨some d,x2,x3,x4,x5,x6⟩).run P w'= .ok (.value v) w') (h:wpAnyH P md ops Q S fuel (listed.setIfInBounds i true) (a.put (some d) v) w) (hi:ops[i]?=some ⟨some d,x2,x3,x4,x5,x6⟩:=by rfl)
  (hk:(Region.noSelect ops&&Region.free md ops listed i&&(Region.ready md ops listed).contains i&&Region.wanted ⟨some d,x2,x3,x4,x5,x6⟩ (yielded ops a.tmps))=true:=by kernel_rfl) (hQ:∀c a w,Q (.panic c) (a.put (some d) v) w→Q (.panic c) a w:=by exact fun _ _ _ h=>h) (hS:S w:=by assumption):wpAnyH P md ops Q S (fuel+1) listed a w:=by
 simp only [Bool.and_eq_true] at hk;obtain⟨⟨⟨h1,h2⟩,h3⟩,h4⟩:=hk;exact wpAnyH_take hi h1 h2 h3 hQ (.inl ⟨h4,hv⟩) hS h
open Go.RowKit in
theorem pt:(∀(a:Act) (d:Tmp) v,a.put (some d) v={a with tmps:=a.tmps.setIfInBounds d v})∧(∀(l:List Bool) i b,l.toArray.setIfInBounds i b=(l.set i b).toArray)∧(∀(l:List Value) i b,l.toArray.setIfInBounds i b=(l.set i b).toArray)∧(∀(x:Bool) l b,(x::l).set 0 b=b::l)∧(∀(x:Value) l b,(x::l).set 0 b=b::l)∧(∀(x:Bool) l i b,(x::l).set (i+1) b=x::l.set i b)∧(∀(x:Value) l i b,(x::l).set (i+1) b=x::l.set i b):=by
 refine⟨?_,?_,?_,?_,?_,?_,?_⟩<;>intros<;>simp [Act.put]
theorem b1 {w W:Go.World} {o:Go.Obj} (h:W=w.alloc o):Go.RowKit.Below w.heap.size w W:=h▸(Go.RowKit.Below.refl _ _).alloc (Nat.le_refl _) o
theorem nm {α:Sort _} (a:α):∃b,b=a:=⟨_,rfl⟩
structure Kept (S:TypeId→Prop) (B:Nat) (w w':World):Prop where
 os:w'.os=w.os
 tape:w'.tape=w.tape
 output:w'.output=w.output
 size:w.heap.size≤w'.heap.size
 block:∀k,k<w.heap.size→(k<B∨∀cs t f,w.heap[k]?=some (.cells cs t f)→¬S t)→w'.heap[k]?=w.heap[k]?

theorem lt_of_some {w:World} {k:Nat} {o:Obj} (h:w.heap[k]?=some o):k<w.heap.size:=by
 rcases Nat.lt_or_ge k w.heap.size with hlt |hge
 ·exact hlt
 ·rw [Array.getElem?_eq_none hge] at h;cases h

section
variable {S:TypeId→Prop} {B:Nat} {a w w':World}
theorem Kept.refl (S:TypeId→Prop) (B:Nat) (w:World):Kept S B w w:=⟨rfl,rfl,rfl,Nat.le_refl _,fun _ _ _=>rfl⟩
theorem Kept.drew (h:Kept S B a w):Kept S B a w.drew:=⟨h.os,h.tape,h.output,h.size,h.block⟩
theorem Kept.drewN (h:Kept S B a w) (n:Nat):Kept S B a (w.drewN n):=⟨h.os,h.tape,h.output,h.size,h.block⟩
theorem Kept.alloc (h:Kept S B a w) (o:Obj):Kept S B a (w.alloc o):=
 ⟨h.os,h.tape,h.output,Nat.le_trans h.size (by simp),fun k hk hc=>(Below.heap_alloc w o k (Nat.lt_of_lt_of_le hk h.size)).trans (h.block k hk hc)⟩
theorem Kept.setCell (h:Kept S B a w) {p:Addr} (hB:B≤p.block) (hS:∃cs t f,w.heap[p.block]?=some (.cells cs t f)∧S t) (u:Value):Kept S B a (w.setCell p u):=by
 refine⟨h.os,h.tape,h.output,by simpa [World.setCell] using h.size,fun k hk hc=>?_⟩;by_cases hkp:k=p.block
 ·subst hkp
  obtain⟨cs,t,f,hw,hs⟩:=hS;rcases hc with hc |hc
  ·omega
  ·have:=h.block _ hk (.inr hc)
   rw [hw] at this;exact absurd hs (hc cs t f this.symm)
 ·exact (Below.heap_setCell w p u k hkp).trans (h.block k hk hc)
theorem Kept.grown {e:TypeId} {size n:Nat} {v:Value} {xs:List Value} {base:Nat} (h:Kept S B a w) (hg:w.grownBy w' v.ownBlock) (hown:w.ownsRow base e size v n xs) (hB:B≤base) (he:S e):Kept S B a w':=by
 refine⟨hg.os.trans h.os,hg.tape.trans h.tape,hg.output.trans h.output,Nat.le_trans h.size hg.size,fun k hk hc=>?_⟩;have hkw:k<w.heap.size:=Nat.lt_of_lt_of_le hk h.size;by_cases hkv:some k=v.ownBlock
 ·rcases hown.2 with⟨rfl,_⟩ |⟨g,cap,cur,rfl,hbg,hh,_⟩
  ·simp [Value.ownBlock] at hkv
  ·have hkg:k=g:=by simpa [Value.ownBlock] using hkv
   subst hkg;rcases hc with hc |hc
   ·omega
   ·have:=h.block _ hk (.inr hc)
    rw [hh] at this;exact absurd he (hc _ _ _ this.symm)
 ·exact (hg.block k hkw hkv).trans (h.block k hk hc)
theorem Kept.trans (h:Kept S B a w) (h':Kept S B w w'):Kept S B a w':=
 ⟨h'.os.trans h.os,h'.tape.trans h.tape,h'.output.trans h.output,Nat.le_trans h.size h'.size,fun k hk hc=>by
   have e:=h.block k hk hc;exact (h'.block k (Nat.lt_of_lt_of_le hk h.size) (hc.imp id fun hc cs t f hw=>hc cs t f (e.symm.trans hw))).trans e⟩
theorem Kept.mono {B':Nat} (h:Kept S B a w) (hB:B'≤B):Kept S B' a w:=
 ⟨h.os,h.tape,h.output,h.size,fun k hk hc=>h.block k hk (hc.imp (fun hc=>Nat.lt_of_lt_of_le hc hB) id)⟩
theorem Kept.below (h:Kept S B a w) (hB:B≤a.heap.size):Below B a w:=
 ⟨h.os,h.tape,h.output,h.size,fun k hk=>h.block k (Nat.lt_of_lt_of_le hk hB) (.inl hk)⟩
theorem Kept.of_below (h:Below a.heap.size a w) (S:TypeId→Prop) (B:Nat):Kept S B a w:=
 ⟨h.os,h.tape,h.output,h.size,fun k hk _=>h.block k hk⟩
theorem Kept.blk {k:Nat} {cs:Array Value} {t:TypeId} {f:Nat×Nat} (h:Kept S B a w) (hb:a.heap[k]?=some (.cells cs t f)) (hn:¬S t):w.heap[k]?=some (.cells cs t f):=
 (h.block k (lt_of_some hb) (.inr fun cs' t' f' hw=>by rw [hb] at hw;injection hw with hw;injection hw with _ ht;subst ht;exact hn)).trans hb
theorem Kept.own {base:Nat} {e:TypeId} {size n:Nat} {v:Value} {xs:List Value} (h:Kept S B a w) (hown:a.ownsRow base e size v n xs) (hn:¬S e):w.ownsRow base e size v n xs:=by
 refine⟨hown.1,?_⟩;rcases hown.2 with h0 |⟨g,cap,cur,hv,hb,hh,hr⟩
 ·exact .inl h0
 ·exact .inr ⟨g,cap,cur,hv,hb,h.blk hh hn,hr⟩
end

theorem Jaa {w:World} {g:Nat} {cs:Array Value} {t:TypeId} {f:Nat×Nat} (h:w.heap[g]?=some (.cells cs t f)) (i:Nat):w.cell? ⟨g,i,none⟩=cs[i]?:=cell_of_row w g i cs t f h
theorem Jab {w:World} {g:Nat} {cs:Array Value} {t:TypeId} (h:w.heap[g]?=some (.cells cs t (0,0))) (i:Nat):w.frozen? ⟨g,i,none⟩=false:=by
 simp [World.frozen?,h]
theorem Jbo {w:World} {g:Nat} {t:TypeId} {f:Nat×Nat} {v:Value} (h:w.heap[g]?=some (.cells #[v] t f)) (u:Value):(w.setCell ⟨g,0,none⟩ u).heap[g]?=some (.cells #[u] t f):=by
 simp [World.setCell,Array.getElem?_modify,h]
theorem Jas {w:World} {g g':Nat} {cs cs':Array Value} {t t':TypeId} {f f':Nat×Nat} (h:w.heap[g]?=some (.cells cs t f)) (h':w.heap[g']?=some (.cells cs' t' f')) (hne:t≠t'):g≠g':=by
 rintro rfl;rw [h] at h';injection h' with h';injection h' with _ ht;exact hne ht
theorem Jap {w:World} {base:Nat} {e:TypeId} {size n:Nat} {v:Value} {xs:List Value} {g:Nat} {cs:Array Value} {t:TypeId} {f:Nat×Nat} (h:w.ownsRow base e size v n xs) (hg:w.heap[g]?=some (.cells cs t f)) (hne:e≠t):v.ownBlock≠some g:=by
 rcases h.2 with⟨rfl,_⟩ |⟨g',cap,cur,rfl,_,hh,_⟩
 ·simp [Value.ownBlock]
 ·intro he
  have:g'=g:=by simpa [Value.ownBlock] using he
  subst this;exact Jas hh hg hne rfl
theorem Jad {w:World} {base:Nat} {e:TypeId} {size n:Nat} {v:Value} {xs:List Value} {p:Addr} (h:w.ownsRow base e size v n xs) (hne:v.ownBlock≠some p.block) (u:Value):(w.setCell p u).ownsRow base e size v n xs:=by
 refine⟨h.1,?_⟩;rcases h.2 with h0 |⟨g,cap,cur,rfl,hb,hh,hr⟩
 ·exact .inl h0
 ·exact .inr ⟨g,cap,cur,rfl,hb,(Below.heap_setCell w p u g (fun e=>hne (by simp [Value.ownBlock,e]))).trans hh,hr⟩

theorem Jd8 {w:World} {base:Nat} {e:TypeId} {size n:Nat} {v:Value} {xs:List Value} (h:w.ownsRow base e size v n xs):∃A l c,v= .slice A l c:=by
 rcases h.2 with⟨rfl,_⟩ |⟨g,cap,cur,rfl,_⟩
 ·exact⟨_,_,_,rfl⟩
 ·exact⟨_,_,_,rfl⟩

end Go.Proofs.YtekekhgjobahaaaGreatDoor.words

namespace Go.Proofs.YtekekhgjobahaaaGreatDoor.stp
open Go.RowKit words held

theorem pt:(∀(a:Act) (d:Tmp) v,a.put (some d) v={a with tmps:=a.tmps.setIfInBounds d v})∧(∀(a:Act) v,a.put none v=a)∧(∀(l:List Bool) i b,l.toArray.setIfInBounds i b=(l.set i b).toArray)∧(∀(l:List Value) i b,l.toArray.setIfInBounds i b=(l.set i b).toArray)∧(∀(x:Bool) l b,(x::l).set 0 b=b::l)∧(∀(x:Bool) l i b,(x::l).set (i+1) b=x::l.set i b)∧(∀(x:Value) l b,(x::l).set 0 b=b::l)∧(∀(x:Value) l i b,(x::l).set (i+1) b=x::l.set i b):=by
 refine⟨?_,?_,?_,?_,?_,?_,?_,?_⟩<;>intros<;>simp [Act.put]
variable {P:Program} {ops:Array Oper} {Q:Exit→Act→World→Prop} {md:Region.Mode} {S:World→Prop} {T:Nat→Bool}
theorem tk (i:Nat) (d:Tmp) {x2 x3 x4 x5 x6} {v:Value} {n:Nat} {L L':Array Bool} {a a':Act} {w:World}
  (h:wpT P md ops Q S T n L' a' w)
  (hi:ops[i]?=some ⟨some d,x2,x3,x4,x5,x6⟩:=by rfl)
  (hv:∀w':World,(execOp a.eval ⟨some d,x2,x3,x4,x5,x6⟩).run P w'= .ok (.value v) w':=by intro _;go_simp;(try with_reducible rfl))
  (e1:L.setIfInBounds i true=L':=by first |(simp only [Go.Proofs.YtekekhgjobahaaaGreatDoor.stp.pt];exact rfl) |exact rfl)
  (e2:a.put (some d) v=a':=by first |(simp only [Go.Proofs.YtekekhgjobahaaaGreatDoor.stp.pt];exact rfl) |exact rfl)
  (hk:(Region.noSelect ops&&Region.free md ops L i&&(Region.ready md ops L).contains i&&Region.wanted ⟨some d,x2,x3,x4,x5,x6⟩ (yielded ops a.tmps))=true:=by kernel_rfl)
  (hQ:∀c a w,Q (.panic c) (a.put (some d) v) w→Q (.panic c) a w:=by exact fun _ _ _ h=>h):
  wpT P md ops Q S T (n+1) L a w:=by
 subst e1;subst e2;simp only [Bool.and_eq_true] at hk;obtain⟨⟨⟨h1,h2⟩,h3⟩,h4⟩:=hk;exact wpT_take hi h1 h2 h3 hQ (.inl ⟨h4,fun w' _=>hv w'⟩) h
def closedB (md:Region.Mode) (ops:Array Oper) (L:Array Bool):Bool:=(List.range ops.size).all fun j=> !L.getD j false||match ops[j]? with |some o=>o.after.all (fun e=> !Region.binds md e||L.getD e.on false) |none=>true
def Closed (md:Region.Mode) (ops:Array Oper) (L:Array Bool):Prop:=∀j o,ops[j]?=some o→L.getD j false=true→∀e∈o.after,Region.binds md e=true→L.getD e.on false=true
theorem Jsh {L:Array Bool} (h:closedB md ops L=true):Closed md ops L:=fun j o hj hl e he hb=>by
 have k:=List.all_eq_true.1 h j (List.mem_range.2 (Array.getElem?_eq_some_iff.1 hj).1);rw [hl,hj] at k;have k2:o.after.all (fun e=> !Region.binds md e||L.getD e.on false)=true:=by simpa using k
 have k3:=Array.all_eq_true'.1 k2 e he;rw [hb] at k3;simpa using k3
theorem Jow {L:Array Bool} {j:Nat} (h:Closed md ops L) (hj:j∈Region.ready md ops L):Closed md ops (L.setIfInBounds j true):=fun k o hk hl e he hb=>by
 by_cases c:j=k
 ·subst c
  obtain⟨_,oj,hoj,hall⟩:=mem_ready.1 hj;rw [hk] at hoj;obtain rfl:=Option.some.inj hoj;exact getD_set_true (hall e he hb)
 ·rw [getD_set_ne false c] at hl
  exact getD_set_true (h k o hk hl e he hb)
def far (md:Region.Mode) (ops:Array Oper) (i:Nat):Nat→Nat→Bool
 |0,_=>false
 |f+1,j=>match ops[j]? with |some o=>o.after.any (fun e=>Region.binds md e&&(e.on==i||far md ops i f e.on)) |none=>false
theorem Jg8 {L:Array Bool} {i:Nat} (h:Closed md ops L):∀(f j:Nat),(∀o,ops[j]?=some o→∀e∈o.after,Region.binds md e=true→L.getD e.on false=true)→far md ops i f j=true→L.getD i false=true
 |0,_,_,hf=>by cases hf
 |f+1,j,hj,hf=>by
  unfold far at hf;cases ho:ops[j]? with
  |none=>rw [ho] at hf;cases hf
  |some o=>
   rw [ho] at hf;obtain⟨e,he,hb⟩:=Array.any_eq_true'.1 hf;rw [Bool.and_eq_true,Bool.or_eq_true,beq_iff_eq] at hb;have hl:=hj o ho e he hb.1;rcases hb.2 with h2 |h2
   ·rw [←h2];exact hl
   ·exact Jg8 h f e.on (fun o' ho'=>h e.on o' ho' hl) h2
def waitsF (md:Region.Mode) (ops:Array Oper) (T:Nat→Bool) (i:Nat):Bool:=(List.range ops.size).all fun j=> !T j||far md ops i ops.size j
theorem Jph {S0:World→Prop} {i:Nat} {oi:Oper} {v:Value} (hi:ops[i]?=some oi) (hsel:∀(j:Nat) (o:Oper) cs b,ops[j]?=some o→o.op≠ .select cs b)
  (hQ:∀c a w,Q (.panic c) (a.put oi.dst v) w→Q (.panic c) a w)
  (h0:∀(L:Array Bool) (j:Nat),Closed md ops L→j∈Region.ready md ops L→L.getD i true=false→∀w w',S0 w→(T j=false→S w→S w')→S0 w'):
  ∀(n:Nat) (L:Array Bool) (a:Act) (w:World),Closed md ops L→
   (∀j oj,ops[j]?=some oj→j≠i→L.getD j true=false→(∀e∈oj.after,Region.binds md e=true→e.on≠i)→oi.apart ops oj=true)→
   i∈Region.ready md ops L→YieldsIf P ops S0 oi v a→S0 w→
   wpT P md ops Q S T n (L.setIfInBounds i true) (a.put oi.dst v) w→wpT P md ops Q S T (n+1) L a w:=by
 intro n
 induction n with
 |zero=>
  intro L a w _ _ hr hy hs H;refine⟨fun h=>absurd (h▸hr) (by simp),fun j hj=>?_⟩;by_cases e:j=i
  ·subst e
   exact hy.wpOp hi hs ⟨fun _ h=>h,H⟩
  ·have k:=ready_mono hj e
   rw [H.1] at k;cases k
 |succ n ih=>
  intro L a w hc hfree hr hy hs H;refine⟨fun h=>absurd (h▸hr) (by simp),fun j hj=>?_⟩;by_cases e:j=i
  ·subst e
   exact hy.wpOp hi hs ⟨fun _ h=>h,H⟩
  ·have k:=H.2 j (ready_mono hj e)
   obtain⟨hjl,oj,hoj,hall⟩:=mem_ready.1 hj;have hil:L.getD i true=false:=(mem_ready.1 hr).1;have hno:∀x∈oj.after,Region.binds md x=true→x.on≠i:=fun x hx hb he=>by
    have:=hall x hx hb;rw [he] at this;exact unlisted hil this
   have k2:=wpOp_putIf hoj (hfree j oj hoj e hjl hno) (fun cs b=>hsel i oi cs b hi) (fun cs b=>hsel j oj cs b hoj) hQ hy k;have hfree':∀q oq,ops[q]?=some oq→q≠i→(L.setIfInBounds j true).getD q true=false→(∀x∈oq.after,Region.binds md x=true→x.on≠i)→oi.apart ops oq=true:=fun q oq hq hqi hun hn=>by
    refine hfree q oq hq hqi ?_ hn;by_cases hjq:j=q
    ·subst hjq
     exact hjl
    ·rw [getD_set_ne true hjq] at hun
     exact hun
   refine wpOp_mono (fun a' w' k3=>⟨k3.2.1,?_⟩) k2;have hs':S0 w':=h0 L j hc hj hil w w' hs k3.2.1;refine ih (L.setIfInBounds j true) a' w' (Jow hc hj) hfree' (ready_mono hr (Ne.symm e)) k3.1 hs' ?_;rw [Array.setIfInBounds_comm _ _ e];exact k3.2.2
theorem Jjq {i:Nat} {oi:Oper} {v:Value} {n:Nat} {L:Array Bool} {a:Act} {w:World} (hi:ops[i]?=some oi) (hs:Region.noSelect ops=true) (hf:Region.free md ops L i=true) (hr:(Region.ready md ops L).contains i=true)
  (hQ:∀c a w,Q (.panic c) (a.put oi.dst v) w→Q (.panic c) a w) (hw:(closedB md ops L&&waitsF md ops T i)=true) (hy:YieldsIf P ops S oi v a) (hS:S w)
  (h:wpT P md ops Q S T n (L.setIfInBounds i true) (a.put oi.dst v) w):wpT P md ops Q S T (n+1) L a w:=by
 rw [Bool.and_eq_true] at hw;refine Jph (S0:=S) hi (Region.noSelect_spec hs) hQ (fun L j hc hj hil w w' hs hk=>?_) n L a w (Jsh hw.1) (Region.free_spec hi hf) (by simpa using hr) hy hS h;rcases hTj:T j with _ |_
 ·exact hk hTj hs
 ·exfalso
  obtain⟨_,oj,hoj,hall⟩:=mem_ready.1 hj;have hlt:j<ops.size:=(Array.getElem?_eq_some_iff.1 hoj).1;have k:=List.all_eq_true.1 hw.2 j (List.mem_range.2 hlt);rw [hTj] at k;have k2:far md ops i ops.size j=true:=by simpa using k
  exact unlisted hil (Jg8 hc _ j (fun o ho=>by rw [hoj] at ho;obtain rfl:=Option.some.inj ho;exact hall) k2)
theorem ld (i:Nat) (d:Tmp) {x2 x3 x4 x5 x6} {v:Value} {n:Nat} {L L':Array Bool} {a a':Act} {w:World}
  (hS:S w) (h:wpT P md ops Q S T n L' a' w)
  (hi:ops[i]?=some ⟨some d,x2,x3,x4,x5,x6⟩:=by rfl)
  (hv:∀w':World,S w'→(execOp a.eval ⟨some d,x2,x3,x4,x5,x6⟩).run P w'= .ok (.value v) w':=by intro _ h;(try dsimp only at h);go_simp;(try with_reducible rfl))
  (e1:L.setIfInBounds i true=L':=by first |(simp only [Go.Proofs.YtekekhgjobahaaaGreatDoor.stp.pt];exact rfl) |exact rfl)
  (e2:a.put (some d) v=a':=by first |(simp only [Go.Proofs.YtekekhgjobahaaaGreatDoor.stp.pt];exact rfl) |exact rfl)
  (hk:(Region.noSelect ops&&Region.free md ops L i&&(Region.ready md ops L).contains i&&Region.wanted ⟨some d,x2,x3,x4,x5,x6⟩ (yielded ops a.tmps)&&(closedB md ops L&&waitsF md ops T i))=true:=by kernel_rfl)
  (hQ:∀c a w,Q (.panic c) (a.put (some d) v) w→Q (.panic c) a w:=by exact fun _ _ _ h=>h):
  wpT P md ops Q S T (n+1) L a w:=by
 subst e1;subst e2;rw [Bool.and_eq_true,Bool.and_eq_true,Bool.and_eq_true,Bool.and_eq_true] at hk;obtain⟨⟨⟨⟨h1,h2⟩,h3⟩,h4⟩,h5⟩:=hk;exact Jjq hi h1 h2 h3 hQ h5 (.inl ⟨h4,hv⟩) hS h
theorem ldm (i:Nat) (d:Tmp) {x2 x3 x4 x5 x6} {v:Value} {n:Nat} {L L':Array Bool} {a a':Act} {w:World}
  (hS:S w) (hy:YieldsIf P ops S ⟨some d,x2,x3,x4,x5,x6⟩ v a) (h:wpT P md ops Q S T n L' a' w)
  (hi:ops[i]?=some ⟨some d,x2,x3,x4,x5,x6⟩:=by rfl)
  (e1:L.setIfInBounds i true=L':=by first |(simp only [Go.Proofs.YtekekhgjobahaaaGreatDoor.stp.pt];exact rfl) |exact rfl)
  (e2:a.put (some d) v=a':=by first |(simp only [Go.Proofs.YtekekhgjobahaaaGreatDoor.stp.pt];exact rfl) |exact rfl)
  (hk:(Region.noSelect ops&&Region.free md ops L i&&(Region.ready md ops L).contains i&&(closedB md ops L&&waitsF md ops T i))=true:=by kernel_rfl)
  (hQ:∀c a w,Q (.panic c) (a.put (some d) v) w→Q (.panic c) a w:=by exact fun _ _ _ h=>h):
  wpT P md ops Q S T (n+1) L a w:=by
 subst e1;subst e2;rw [Bool.and_eq_true,Bool.and_eq_true,Bool.and_eq_true] at hk;obtain⟨⟨⟨h1,h2⟩,h3⟩,h5⟩:=hk;exact Jjq hi h1 h2 h3 hQ h5 hy hS h
variable {w:World} {g:Nat} {t:TypeId} {f:Nat×Nat} {u0 u1 u2 u3 u4 u5 u6 u7 u8:Value}
theorem cs2 (h:w.heap[g]?=some (.cells #[u0,u1] t f)):w.cell? ⟨g,0,none⟩=some u0∧w.cell? ⟨g,1,none⟩=some u1:=⟨Jaa h 0,Jaa h 1⟩
theorem cs3 (h:w.heap[g]?=some (.cells #[u0,u1,u2] t f)):w.cell? ⟨g,0,none⟩=some u0∧w.cell? ⟨g,1,none⟩=some u1∧w.cell? ⟨g,2,none⟩=some u2:=⟨Jaa h 0,Jaa h 1,Jaa h 2⟩
theorem cs4 (h:w.heap[g]?=some (.cells #[u0,u1,u2,u3] t f)):w.cell? ⟨g,0,none⟩=some u0∧w.cell? ⟨g,1,none⟩=some u1∧w.cell? ⟨g,2,none⟩=some u2∧w.cell? ⟨g,3,none⟩=some u3:=⟨Jaa h 0,Jaa h 1,Jaa h 2,Jaa h 3⟩
theorem cs6 (h:w.heap[g]?=some (.cells #[u0,u1,u2,u3,u4,u5] t f)):w.cell? ⟨g,0,none⟩=some u0∧w.cell? ⟨g,1,none⟩=some u1∧w.cell? ⟨g,2,none⟩=some u2∧w.cell? ⟨g,3,none⟩=some u3∧w.cell? ⟨g,4,none⟩=some u4∧w.cell? ⟨g,5,none⟩=some u5:=⟨Jaa h 0,Jaa h 1,Jaa h 2,Jaa h 3,Jaa h 4,Jaa h 5⟩
theorem cs8 (h:w.heap[g]?=some (.cells #[u0,u1,u2,u3,u4,u5,u6,u7] t f)):w.cell? ⟨g,0,none⟩=some u0∧w.cell? ⟨g,1,none⟩=some u1∧w.cell? ⟨g,2,none⟩=some u2∧w.cell? ⟨g,3,none⟩=some u3∧w.cell? ⟨g,4,none⟩=some u4∧w.cell? ⟨g,5,none⟩=some u5∧w.cell? ⟨g,6,none⟩=some u6∧w.cell? ⟨g,7,none⟩=some u7:=⟨Jaa h 0,Jaa h 1,Jaa h 2,Jaa h 3,Jaa h 4,Jaa h 5,Jaa h 6,Jaa h 7⟩
theorem new {w W:World} {cs:Array Value} {t:TypeId} (h:W=w.alloc (.cells cs t)):W.heap[w.heap.size]?=some (.cells cs t (0,0))∧Below w.heap.size w W:=by
 subst h;exact⟨heap_alloc_new w _,(Below.refl _ _).alloc (Nat.le_refl _) _⟩
theorem old {w W:World} {o:Obj} (hb:Below w.heap.size w W) (h:w.heap[g]?=some o):W.heap[g]?=some o:=(hb.block _ (lt_of_some h)).trans h
theorem put {T:TypeId} {f:Nat×Nat}:∀{cs:List Value} {w:World},w.heap[g]?=some (.cells cs.toArray T f)→∀(o:Nat) (vs:List Value),o+vs.length≤cs.length→(w.setCells g o vs).heap[g]?=some (.cells (cs.take o++vs++cs.drop (o+vs.length)).toArray T f)
 |cs,w,h,o,[],_=>by simpa [World.setCells] using h
 |cs,w,h,o,v::r,hl=>by
  rw [List.length_cons] at hl;have h1:(w.setCell ⟨g,o,none⟩ v).heap[g]?=some (.cells (cs.set o v).toArray T f):=by
   have hlt:=lt_of_some h;simp [World.setCell,Array.getElem?_modify,h]
  have h2:=put h1 (o+1) r (by rw [List.length_set];omega);rw [World.setCells,h2];congr 3;rw [List.take_set,List.drop_set_of_lt (by omega),List.length_cons,show o+1+r.length=o+(r.length+1) by omega];rw [List.take_succ_eq_append_getElem (by omega),List.set_append_right _ _ (by rw [List.length_take];omega),List.length_take,show o - min o cs.length=0 by omega];simp
theorem put_other (k:Nat):∀(vs:List Value) (o:Nat) (w:World),k≠g→(w.setCells g o vs).heap[k]?=w.heap[k]?
 |[],_,_,_=>rfl
 |v::r,o,w,h=>by rw [World.setCells,put_other k r (o+1) _ h,heap_setCell_other _ _ _ _ h]
theorem below_cells {B:Nat} {a:World} (hg:B≤g):∀(vs:List Value) (o:Nat) (w:World),Below B a w→Below B a (w.setCells g o vs)
 |[],_,_,h=>h
 |v::r,o,w,h=>by
  rw [World.setCells];exact below_cells hg r (o+1) _ (h.setCell (p:=⟨g,o,none⟩) hg v)
theorem Jdr {T:TypeId}:∀(vs:List Value) (o:Nat) (cs:List Value) (w:World),o+vs.length≤cs.length→(w.alloc (.cells cs.toArray T)).setCells w.heap.size o vs=w.alloc (.cells (cs.take o++vs++cs.drop (o+vs.length)).toArray T)
 |[],o,cs,w,_=>by simp [World.setCells]
 |v::r,o,cs,w,hl=>by
  rw [List.length_cons] at hl;rw [World.setCells,World.setCell_alloc_at _ _ _ _ _ rfl];rw [show (cs.toArray.setIfInBounds o v)=(cs.set o v).toArray by simp,Jdr r (o+1) _ w (by rw [List.length_set];omega)];congr 3;rw [List.take_set,List.drop_set_of_lt (by omega),List.length_cons,show o+1+r.length=o+(r.length+1) by omega];rw [List.take_succ_eq_append_getElem (by omega),List.set_append_right _ _ (by rw [List.length_take];omega),List.length_take,show o - min o cs.length=0 by omega];simp
theorem wl_put {T:TypeId} {rest:List Oper} {op:Oper} {a:Act} {w:World} {x y:Operand} {zs vs:List Value} {n:Nat} (hgd:op.guard=none) (ho:op.op= .store T x y) (hn:n=w.heap.size) (hx:a.eval x= .pointer (some ⟨n,0,none⟩)) (hy:a.eval y= .agg vs.toArray) (hl:zs.length=vs.length) (hi:(P.info? T).map (·.size)=some vs.length) (h1:vs.toArray.all (·.oneCell')=true)
  (h:wpList P ops Q rest (a.put op.dst undef) (w.alloc (.cells vs.toArray T))):wpList P ops Q (op::rest) a (w.alloc (.cells zs.toArray T)):=by
 subst hn;have hb:(w.alloc (.cells zs.toArray T)).heap[w.heap.size]?=some (.cells zs.toArray T (0,0)):=heap_alloc_new w _;refine wpList_store_mid hgd T x y ho w.heap.size 0 vs.toArray hx hy (fun j hj=>⟨?_,Jab hb _⟩) (by rw [List.size_toArray];exact hi) h1 ?_
 ·rw [List.size_toArray] at hj
  rw [Jaa hb,List.getElem?_toArray,List.getElem?_eq_getElem (by omega)];rfl
 ·have e:vs.toArray.toList=vs:=rfl
  rw [e,Jdr vs 0 zs w (by omega),List.take_zero,List.nil_append,List.drop_eq_nil_of_le (by omega),List.append_nil];exact h
theorem there {cs:List Value} {T:TypeId} (h:w.heap[g]?=some (.cells cs.toArray T (0,0))) {o n:Nat} (hl:o+n≤cs.length):w.there g o n:=fun j hj=>by
 refine⟨?_,Jab h _⟩;rw [Jaa h,List.getElem?_toArray,List.getElem?_eq_getElem (by omega)];rfl
end Go.Proofs.YtekekhgjobahaaaGreatDoor.stp
