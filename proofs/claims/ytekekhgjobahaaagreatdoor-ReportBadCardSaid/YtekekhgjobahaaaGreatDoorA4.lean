import Derived.Test.YtekekhgjobahaaaGreatDoorA1
import Derived.DeepKeys5
set_option maxRecDepth 100000
namespace Go.Proofs.YtekekhgjobahaaaGreatDoor.mpk
open Go.RowKit Go.Maps words lru

def heldR (v:Value):Option (DataW Value×List MemPlace):=some (.held v,[])
def orElse (o:Option Value) (z:DataW Value):DataW Value:=match o with
 |some v=> .held v
 |none=>z
section
variable {κ:Type} {kv:κ→Value} {kl:κ→Lit}
structure Keys (P:Program) (k:TypeId) (kv:κ→Value) (kl:κ→Lit):Prop where
 keyed:Keyed P k
 of:∀x,keyOf P k (kv x)=some (kl x)
 inj:∀{x y},kl x=kl y→x=y
 is:∀x,WideAt.IsKeyLit (kl x)
theorem Keys.ne {P:Program} {k:TypeId} (h:Keys P k kv kl) {x y:κ} (e:x≠y):kl x≠kl y:=fun he=>e (h.inj he)
variable [DecidableEq κ]

def valP:List (κ×Value)→κ→Option Value
 |[],_=>none
 |(y,v)::L,x=>if x=y then some v else valP L x
def delL (L:List (κ×Value)) (x:κ):List (κ×Value):=L.filter fun p=> !(p.1==x)
theorem Jbq {x:κ}:∀{L:List (κ×Value)},valP L x=none↔∀p∈L,p.1≠x
 |[]=>by simp [valP]
 |(y,v)::L=>by
  unfold valP;by_cases h:x=y
  ·subst h;simp
  ·rw [if_neg h,Jbq (L:=L)]
   constructor
   ·intro hL p hp
    rcases List.mem_cons.1 hp with rfl |hp
    ·exact fun e=>h e.symm
    ·exact hL p hp
   ·exact fun hL p hp=>hL p (List.mem_cons_of_mem _ hp)
theorem Jeh (x y:κ):∀(L:List (κ×Value)),valP (delL L x) y=if y=x then none else valP L y
 |[]=>by simp [delL,valP]
 |(z,u)::L=>by
  have ih:=Jeh x y L;unfold delL at ih ⊢;by_cases hz:z=x
  ·subst hz
   rw [List.filter_cons_of_neg (by simp),ih];by_cases e:y=z
   ·rw [if_pos e,if_pos e]
   ·simp only [valP,if_neg e]
  ·rw [List.filter_cons_of_pos (by simp [hz])]
   unfold valP;rw [ih];by_cases e:y=z
   ·subst e;rw [if_pos rfl,if_pos rfl,if_neg hz]
   ·rw [if_neg e,if_neg e]
theorem Jf7 {L:List (κ×Value)} (x:κ) (h:(L.map (·.1)).Nodup):((delL L x).map (·.1)).Nodup:=by
 unfold delL;exact (List.filter_sublist.map _).nodup h
theorem Jib {L:List (κ×Value)} {x:κ} (h:valP L x=none):delL L x=L:=by
 unfold delL;rw [List.filter_eq_self];intro p hp;simpa using Jbq.1 h p hp
theorem Jli {L:List (κ×Value)} {x:κ} (nd:(L.map (·.1)).Nodup):(delL L x).length+(if (valP L x).isSome then 1 else 0)=L.length:=by
 induction L with
 |nil=>simp [delL,valP]
 |cons p L ih=>
  obtain⟨z,u⟩:=p;rw [List.map_cons,List.nodup_cons] at nd;have ih:=ih nd.2;by_cases hz:x=z
  ·subst hz
   have hn:valP L x=none:=Jbq.2 fun p hp e=>nd.1 (by rw [←e];exact List.mem_map.2 ⟨_,hp,rfl⟩);have hd:=Jib hn;unfold delL at hd ⊢;rw [List.filter_cons_of_neg (by simp),hd];simp [valP]
  ·unfold delL at ih ⊢
   rw [List.filter_cons_of_pos (by simp;exact fun e=>hz e.symm)];unfold valP;rw [if_neg hz,List.length_cons,List.length_cons];omega
def MapL (kl:κ→Lit) (w:World) (P:Program) (k:TypeId) (b:Nat) (L:List (κ×Value)):Prop:=
 ∃D,w.ownsMap P k heldR b L.length D∧(∀x z,D.atKey (kl x) z=orElse (valP L x) z)∧Maps.size D=L.length∧(L.map (·.1)).Nodup
section
variable {P:Program} {k:TypeId} {w w':World} {b:Nat} {L:List (κ×Value)}
theorem Jgi {n:Nat} {D:DataW Value} (h:w.ownsMap P k heldR b n D) {m:Nat} (hm:Maps.size D≤m):w.ownsMap P k heldR b m D:=by
 obtain⟨es,clock,h1,h2,h3,rfl⟩:=h;exact⟨es,clock,h1,h2,by simpa [Maps.size,length_sorted] using hm,rfl⟩
theorem MapL.made (w:World) (P:Program) (k:TypeId):MapL kl (w.alloc (.map #[] 0)) P k w.heap.size []:=
 ⟨_,World.ownsMap_made w P k heldR,fun _ _=>rfl,rfl,List.nodup_nil⟩
theorem MapL.nd (h:MapL kl w P k b L):(L.map (·.1)).Nodup:=by
 obtain⟨D,_,_,_,h⟩:=h;exact h
theorem MapL.of_block (h:MapL kl w P k b L) (hb:w'.heap[b]?=w.heap[b]?):MapL kl w' P k b L:=by
 obtain⟨D,⟨es,clock,h1,h2⟩,hf⟩:=h;exact⟨D,⟨es,clock,hb.trans h1,h2⟩,hf⟩
theorem MapL.lt (h:MapL kl w P k b L):b<w.heap.size:=by
 obtain⟨D,ho,_⟩:=h;exact ho.lt
theorem MapL.not (h:MapL kl w P k b L) (cs:Array Value) (t:TypeId) (q:Nat×Nat):w.heap[b]?≠some (.cells cs t q):=fun hg=>by
 obtain⟨D,⟨es,clock,h1,_⟩,_⟩:=h;rw [h1] at hg;cases hg
theorem MapL.look_ok {t e:TypeId} (h:MapL kl w P k b L) (hk:Keys P k kv kl) (ht:P.underlying t=some (.map k e)) {z:Value} (hz:(zeroValue e).run P w= .ok z w) {x:κ}:
  (Instr.lookup t (.map (some b)) (kv x) true).run P w= .ok (.tuple #[(valP L x).getD z,.bool (valP L x).isSome]) w:=by
 obtain⟨D,ho,hf,_⟩:=h;obtain⟨v,ps,hr,hv⟩:=ho.look_ok (hk.keyed) ht hz (zd:= .held z) (zp:=[]) rfl (key:=kv x) (kl:=kl x) (hk.of x);have h1:DataW.held v=D.atKey (kl x) (.held z):=congrArg Prod.fst (Option.some.inj hv);have hh:Maps.has D (kl x)=(valP L x).isSome:=by
  have h1:=hf x;rcases hfs:valP L x with _ |u
  ·exact has_false_of_atKey fun z=>by rw [h1 z,hfs];rfl
  ·exact has_true_of_atKey (y:= .held u) fun z=>by rw [h1 z,hfs];rfl
 rw [hr,hh];rw [hf] at h1;rcases hL:valP L x with _ |u
 ·rw [hL] at h1;rw [DataW.held.inj h1];rfl
 ·rw [hL] at h1;rw [DataW.held.inj h1];rfl
theorem MapL.len {t e:TypeId} (h:MapL kl w P k b L) (ht:P.underlying t=some (.map k e)) (ty:TypeId):(Builtin.len_ #[t] ty #[.map (some b)]).run P w= .ok (.int .i64 (L.length:Int)) w:=by
 obtain⟨D,ho,_,hs,_⟩:=h;rw [ho.len ht ty,hs]
theorem MapL.has {D:DataW Value} (hf:∀x z,D.atKey (kl x) z=orElse (valP L x) z) (x:κ):Maps.has D (kl x)=(valP L x).isSome:=by
 have h1:=hf x;rcases hfs:valP L x with _ |u
 ·exact has_false_of_atKey fun z=>by rw [h1 z,hfs];rfl
 ·exact has_true_of_atKey (y:= .held u) fun z=>by rw [h1 z,hfs];rfl
theorem Jgz (h:w.mapTurned w' b):Tn (fun j=>j=b) w w':=by
 have hg:=h.grown;exact⟨hg.os,hg.tape,hg.output,hg.size,fun j hj hn=>hg.block j hj fun e=>hn (by injection e)⟩
theorem MapL.drop {t e:TypeId} (h:MapL kl w P k b L) (hk:Keys P k kv kl) (ht:P.underlying t=some (.map k e)) {x:κ} (ty:TypeId):
  ∃w',(Builtin.delete_ #[t,k] ty #[.map (some b),kv x]).run P w= .ok (.tuple #[]) w'∧MapL kl w' P k b (delL L x)∧Tn (fun j=>j=b) w w':=by
 obtain⟨D,ho,hf,hs,nd⟩:=h;obtain⟨w',hr,h1,h2⟩:=ho.drop (hk.keyed) ht (key:=kv x) (kl:=kl x) (hk.of x) ty;have hz:Maps.size (D.del (kl x))=(delL L x).length:=by
  have e1:=Maps.size_del (k:=kl x) (ho.tidy (hk.keyed));rw [MapL.has hf x,hs] at e1;have e2:=Jli (x:=x) nd;omega
 refine⟨w',hr,⟨_,Jgi h1 (Nat.le_of_eq hz),fun y z=>?_,hz,Jf7 x nd⟩,Jgz h2⟩;rw [Jeh];by_cases e:y=x
 ·subst e
  rw [atKey_del_same,if_pos rfl];rfl
 ·rw [atKey_del_other (hk.ne e),if_neg e,hf]
end

section
variable {P:Program} {w:World} {ops:Array Oper} {rest:List Oper} {o:Oper} {a:Act} {Q:Exit→Act→World→Prop}
end
end
end Go.Proofs.YtekekhgjobahaaaGreatDoor.mpk

namespace Go.Proofs.YtekekhgjobahaaaGreatDoor.svr
open Go.RowKit Go.Maps words lru

abbrev Lk:=Bool×Fin 256
def kvL (x:Lk):Value:= .agg #[.bool x.1,.int .i64 ((x.2.val:Nat):Int)]
def kl0 (P:Program) (k:TypeId) (x:Lk):Lit:=match keyOf P k (kvL x) with
 |some l=>l
 |none=> .nil
def kR (K:List (Lk×Int)):List (Lk×Value):=K.map fun p=>(p.1,.int .i64 p.2)
end Go.Proofs.YtekekhgjobahaaaGreatDoor.svr
