import Derived.Test.YtkjpgheealfedaaGreatDoorKA
import Derived.Test.YtkjpgheealfedaaGreatDoorJK
import Derived.DeepKeys5
set_option maxHeartbeats 3200000
set_option maxRecDepth 100000
open Go.Lib (hid)
open Go.Proofs.Tryz
namespace Go.Proofs.YtkjpgheealfedaaGreatDoor.mpi
open Go.RowKit Go.Maps words lru

abbrev Pr:=Int×Value
def heldR (v:Value):Option (DataW Value×List MemPlace):=some (.held v,[])
def orElse (o:Option Value) (z:DataW Value):DataW Value:=match o with
 |some v=> .held v
 |none=>z
def keyI (x:Int):Lit:= .int .i64 x
theorem Jow {x y:Int} (h:x≠y):keyI x≠keyI y:=fun he=>h (by injection he)
theorem Jrw (x:Int):WideAt.IsKeyLit (keyI x):=trivial
def Fits (x:Int):Prop:=(Lit.int .i64 x).wf=true
def valP:List Pr→Int→Option Value
 |[],_=>none
 |(y,v)::L,x=>if x=y then some v else valP L x
def delL (L:List Pr) (x:Int):List Pr:=L.filter fun p=> !(p.1==x)
theorem Ja6 {x:Int}:∀{L:List Pr},valP L x=none↔∀p∈L,p.1≠x
 |[]=>by simp [valP]
 |(y,v)::L=>by
  unfold valP;by_cases h:x=y
  ·subst h;simp
  ·rw [if_neg h,Ja6 (L:=L)]
   constructor
   ·intro hL p hp
    rcases List.mem_cons.1 hp with rfl |hp
    ·exact fun e=>h e.symm
    ·exact hL p hp
   ·exact fun hL p hp=>hL p (List.mem_cons_of_mem _ hp)
theorem Jct (x:Int) (v:Value) (y:Int):∀(L:List Pr),valP L x=none→valP (L++[(x,v)]) y=if y=x then some v else valP L y
 |[],_=>by simp [valP]
 |(z,u)::L,h=>by
  have hz:x≠z:=fun e=>by unfold valP at h;rw [if_pos e] at h;cases h
  have hL:valP L x=none:=by unfold valP at h;rwa [if_neg hz] at h
  rw [List.cons_append];unfold valP;rw [Jct x v y L hL];by_cases e:y=z
  ·subst e;rw [if_pos rfl,if_pos rfl,if_neg (fun e=>hz e.symm)]
  ·rw [if_neg e,if_neg e]
theorem Jdr (x y:Int):∀(L:List Pr),valP (delL L x) y=if y=x then none else valP L y
 |[]=>by simp [delL,valP]
 |(z,u)::L=>by
  have ih:=Jdr x y L;unfold delL at ih ⊢;by_cases hz:z=x
  ·subst hz
   rw [List.filter_cons_of_neg (by simp),ih];by_cases e:y=z
   ·rw [if_pos e,if_pos e]
   ·simp only [valP,if_neg e]
  ·rw [List.filter_cons_of_pos (by simp [hz])]
   unfold valP;rw [ih];by_cases e:y=z
   ·subst e;rw [if_pos rfl,if_pos rfl,if_neg hz]
   ·rw [if_neg e,if_neg e]
theorem Jgf {L:List Pr} (x:Int) (h:(L.map (·.1)).Nodup):((delL L x).map (·.1)).Nodup:=by
 unfold delL;exact (List.filter_sublist.map _).nodup h
theorem Jhl {L:List Pr} {x:Int} (h:valP L x=none):delL L x=L:=by
 unfold delL;rw [List.filter_eq_self];intro p hp;simpa using Ja6.1 h p hp
theorem Jj2 {L:List Pr} {x:Int} (nd:(L.map (·.1)).Nodup):(delL L x).length+(if (valP L x).isSome then 1 else 0)=L.length:=by
 induction L with
 |nil=>simp [delL,valP]
 |cons p L ih=>
  obtain⟨z,u⟩:=p;rw [List.map_cons,List.nodup_cons] at nd;have ih:=ih nd.2;by_cases hz:x=z
  ·subst hz
   have hn:valP L x=none:=Ja6.2 fun p hp e=>nd.1 (by rw [←e];exact List.mem_map.2 ⟨_,hp,rfl⟩);have hd:=Jhl hn;unfold delL at hd ⊢;rw [List.filter_cons_of_neg (by simp),hd];simp [valP]
  ·unfold delL at ih ⊢
   rw [List.filter_cons_of_pos (by simp;exact fun e=>hz e.symm)];unfold valP;rw [if_neg hz,List.length_cons,List.length_cons];omega
theorem Jee {L:List Pr} {x:Int} {v:Value} (nd:(L.map (·.1)).Nodup) (h:valP L x=none):((L++[(x,v)]).map (·.1)).Nodup:=by
 rw [List.map_append,List.nodup_append];refine⟨nd,by simp,fun a ha b hb=>?_⟩;obtain⟨p,hp,rfl⟩:=List.mem_map.1 ha;have:b=x:=by simpa using hb
 subst this;exact Ja6.1 h p hp

def MapL (w:World) (P:Program) (k:TypeId) (b:Nat) (L:List Pr):Prop:=
 ∃D,w.ownsMap P k heldR b L.length D∧(∀x z,D.atKey (keyI x) z=orElse (valP L x) z)∧Maps.size D=L.length∧(L.map (·.1)).Nodup
section
variable {P:Program} {k:TypeId} {w w':World} {b:Nat} {L:List Pr}
theorem Jcp {n:Nat} {D:DataW Value} (h:w.ownsMap P k heldR b n D) {m:Nat} (hm:Maps.size D≤m):w.ownsMap P k heldR b m D:=by
 obtain⟨es,clock,h1,h2,h3,rfl⟩:=h;exact⟨es,clock,h1,h2,by simpa [Maps.size,length_sorted] using hm,rfl⟩
theorem MapL.made (w:World) (P:Program) (k:TypeId):MapL (w.alloc (.map #[] 0)) P k w.heap.size []:=
 ⟨_,World.ownsMap_made w P k heldR,fun _ _=>rfl,rfl,List.nodup_nil⟩
theorem MapL.nd (h:MapL w P k b L):(L.map (·.1)).Nodup:=by
 obtain⟨D,_,_,_,h⟩:=h;exact h
theorem MapL.of_block (h:MapL w P k b L) (hb:w'.heap[b]?=w.heap[b]?):MapL w' P k b L:=by
 obtain⟨D,⟨es,clock,h1,h2⟩,hf⟩:=h;exact⟨D,⟨es,clock,hb.trans h1,h2⟩,hf⟩
theorem MapL.lt (h:MapL w P k b L):b<w.heap.size:=by
 obtain⟨D,ho,_⟩:=h;exact ho.lt
theorem MapL.not (h:MapL w P k b L) (cs:Array Value) (t:TypeId) (q:Nat×Nat):w.heap[b]?≠some (.cells cs t q):=fun hg=>by
 obtain⟨D,⟨es,clock,h1,_⟩,_⟩:=h;rw [h1] at hg;cases hg
theorem MapL.look {t e:TypeId} (h:MapL w P k b L) (hk:P.underlying k=some (.int .i64)) (ht:P.underlying t=some (.map k e)) {z:Value} (hz:(zeroValue e).run P w= .ok z w) {x:Int} (hx:Fits x):
  (Instr.lookup t (.map (some b)) (.int .i64 x) false).run P w= .ok ((valP L x).getD z) w:=by
 obtain⟨D,ho,hf,_⟩:=h;obtain⟨v,ps,hr,hv⟩:=ho.lookup (int_keyed hk) ht hz (zd:= .held z) (zp:=[]) rfl (key:= .int .i64 x) (kl:=keyI x) (keyOf_int_mk hk hx);rw [hr];have h1:DataW.held v=D.atKey (keyI x) (.held z):=congrArg Prod.fst (Option.some.inj hv);rw [hf] at h1;rcases hL:valP L x with _ |u
 ·rw [hL] at h1;rw [DataW.held.inj h1];rfl
 ·rw [hL] at h1;rw [DataW.held.inj h1];rfl
theorem MapL.look_ok {t e:TypeId} (h:MapL w P k b L) (hk:P.underlying k=some (.int .i64)) (ht:P.underlying t=some (.map k e)) {z:Value} (hz:(zeroValue e).run P w= .ok z w) {x:Int} (hx:Fits x):
  (Instr.lookup t (.map (some b)) (.int .i64 x) true).run P w= .ok (.tuple #[(valP L x).getD z,.bool (valP L x).isSome]) w:=by
 obtain⟨D,ho,hf,_⟩:=h;obtain⟨v,ps,hr,hv⟩:=ho.look_ok (int_keyed hk) ht hz (zd:= .held z) (zp:=[]) rfl (key:= .int .i64 x) (kl:=keyI x) (keyOf_int_mk hk hx);have h1:DataW.held v=D.atKey (keyI x) (.held z):=congrArg Prod.fst (Option.some.inj hv);have hh:Maps.has D (keyI x)=(valP L x).isSome:=by
  have h1:=hf x;rcases hfs:valP L x with _ |u
  ·exact has_false_of_atKey fun z=>by rw [h1 z,hfs];rfl
  ·exact has_true_of_atKey (y:= .held u) fun z=>by rw [h1 z,hfs];rfl
 rw [hr,hh];rw [hf] at h1;rcases hL:valP L x with _ |u
 ·rw [hL] at h1;rw [DataW.held.inj h1];rfl
 ·rw [hL] at h1;rw [DataW.held.inj h1];rfl
theorem MapL.len {t e:TypeId} (h:MapL w P k b L) (ht:P.underlying t=some (.map k e)) (ty:TypeId):(Builtin.len_ #[t] ty #[.map (some b)]).run P w= .ok (.int .i64 (L.length:Int)) w:=by
 obtain⟨D,ho,_,hs,_⟩:=h;rw [ho.len ht ty,hs]
theorem MapL.has {D:DataW Value} (hf:∀x z,D.atKey (keyI x) z=orElse (valP L x) z) (x:Int):Maps.has D (keyI x)=(valP L x).isSome:=by
 have h1:=hf x;rcases hfs:valP L x with _ |u
 ·exact has_false_of_atKey fun z=>by rw [h1 z,hfs];rfl
 ·exact has_true_of_atKey (y:= .held u) fun z=>by rw [h1 z,hfs];rfl
theorem Jco (h:w.mapTurned w' b):Tn (fun j=>j=b) w w':=by
 have hg:=h.grown;exact⟨hg.os,hg.tape,hg.output,hg.size,fun j hj hn=>hg.block j hj fun e=>hn (by injection e)⟩
theorem MapL.drop {t e:TypeId} (h:MapL w P k b L) (hk:P.underlying k=some (.int .i64)) (ht:P.underlying t=some (.map k e)) {x:Int} (hx:Fits x) (ty:TypeId):
  ∃w',(Builtin.delete_ #[t,k] ty #[.map (some b),.int .i64 x]).run P w= .ok (.tuple #[]) w'∧MapL w' P k b (delL L x)∧Tn (fun j=>j=b) w w':=by
 obtain⟨D,ho,hf,hs,nd⟩:=h;obtain⟨w',hr,h1,h2⟩:=ho.drop (int_keyed hk) ht (key:= .int .i64 x) (kl:=keyI x) (keyOf_int_mk hk hx) ty;have hz:Maps.size (D.del (keyI x))=(delL L x).length:=by
  have e1:=Maps.size_del (k:=keyI x) (ho.tidy (int_keyed hk));rw [MapL.has hf x,hs] at e1;have e2:=Jj2 (x:=x) nd;omega
 refine⟨w',hr,⟨_,Jcp h1 (Nat.le_of_eq hz),fun y z=>?_,hz,Jgf x nd⟩,Jco h2⟩;rw [Jdr];by_cases e:y=x
 ·subst e
  rw [atKey_del_same,if_pos rfl];rfl
 ·rw [atKey_del_other (Jow e),if_neg e,hf]
theorem MapL.put_fn {D:DataW Value} (hD:IsMap D) (hf:∀x z,D.atKey (keyI x) z=orElse (valP L x) z) (x:Int) (v:Value) (y:Int) (z:DataW Value):(D.put (keyI x) (.held v)).atKey (keyI y) z=orElse (if y=x then some v else valP L y) z:=by
 by_cases h:y=x
 ·subst h
  rw [if_pos rfl,atKey_put_same hD (Jrw y)];rfl
 ·rw [if_neg h,atKey_put_other (Jow h),hf]
theorem MapL.store_new {t e:TypeId} (h:MapL w P k b L) (hk:P.underlying k=some (.int .i64)) (ht:P.underlying t=some (.map k e)) {x:Int} (hx:Fits x) (v:Value) (hn:L.length<maxLen) (hno:valP L x=none):
  ∃w',(Instr.mapUpdate t (.map (some b)) (.int .i64 x) v).run P w= .ok () w'∧MapL w' P k b (L++[(x,v)])∧Tn (fun j=>j=b) w w':=by
 obtain⟨D,ho,hf,hs,nd⟩:=h;obtain⟨w',hr,h1,h2⟩:=ho.store (int_keyed hk) ht hn (key:= .int .i64 x) (val:=v) (kl:=keyI x) (d:= .held v) (ps:=[]) (keyOf_int_mk hk hx) rfl;have hz:Maps.size (D.put (keyI x) (.held v))=(L++[(x,v)]).length:=by
  rw [Maps.size_put (ho.tidy (int_keyed hk)),MapL.has hf x,hno,hs,List.length_append];rfl
 refine⟨w',hr,⟨_,Jcp h1 (Nat.le_of_eq hz),fun y z=>?_,hz,Jee nd hno⟩,Jco h2⟩;rw [MapL.put_fn ho.isMap hf,Jct x v y L hno]
end

def At (v:Value) (j:Nat):Prop:=v= .map (some j)
section
variable {P:Program} {k:TypeId} {w w':World} {B:Nat} {v:Value} {L:List Pr}
end
section
variable {P:Program} {w:World} {ops:Array Oper} {rest:List Oper} {o:Oper} {a:Act} {Q:Exit→Act→World→Prop}
theorem wpList_new (hg:o.guard=none) (m x u:Operand) (t:TypeId) (hop:o.op=Op.mapUpdate t m x u) (k e:TypeId) (hk:P.underlying k=some (.int .i64)) (ht:P.underlying t=some (.map k e)) (b:Nat) (L:List Pr)
  (hm:a.eval m= .map (some b)) (h:MapL w P k b L) (hn:L.length<maxLen) (key:Int) (v:Value) (hx:a.eval x= .int .i64 key) (hu:a.eval u=v) (hf:Fits key) (hno:valP L key=none)
  (hK:∀w',MapL w' P k b (L++[(key,v)])→Tn (fun j=>j=b) w w'→wpList P ops Q rest (a.put o.dst undef) w'):
  wpList P ops Q (o::rest) a w:=by
 refine wpList_plain hg fun K' hK'=>?_;obtain⟨w',hrun,r1,r2⟩:=h.store_new hk ht hf v hn hno;unfold Oper.wp;simp [execOp,hop,hm,hx,hu,hrun,Result.andThen];exact hK' _ _ (hK w' r1 r2)
end
end Go.Proofs.YtkjpgheealfedaaGreatDoor.mpi

namespace Go.Proofs.YtkjpgheealfedaaGreatDoor.cur
open Go.RowKit words lru mpi

structure Cu where
 ep:Int
 dr:ByteArray
 at_:Int
def c0:Cu:=⟨0,⟨#[]⟩,0⟩
def curV (c:Cu):Value:= .agg #[.int .i64 c.ep,.string c.dr,.int .i64 c.at_]
abbrev Cs:=List (Int×Cu)
def cR (L:Cs):List Pr:=L.map fun p=>(p.1,curV p.2)
def valC:Cs→Int→Option Cu
 |[],_=>none
 |(y,c)::L,x=>if x=y then some c else valC L x
theorem Jte (x:Int):∀L:Cs,valP (cR L) x=(valC L x).map curV
 |[]=>rfl
 |(y,c)::L=>by
  have ih:=Jte x L;unfold cR at ih ⊢;rw [List.map_cons];unfold valP valC;rw [ih];split<;>rfl
theorem Jsa (L:Cs):(cR L).map (·.1)=L.map (·.1):=by unfold cR;rw [List.map_map];rfl
def Tb (w:World) (B t m:Nat) (r n:Int) (L:Cs):Prop:=
 B≤t∧B≤m∧w.heap[t]?=some (.cells #[.int .i64 r,.int .i64 n,.map (some m)] 204 (0,0))∧MapL w prog 3 m (cR L)
def Bk (t m:Nat) (j:Nat):Prop:=j=t∨j=m
section
variable {S:Nat→Prop} {w w':World} {B t m:Nat} {r n:Int} {L:Cs}
theorem Tb.tn (h:Tb w B t m r n L) (ht:Tn S w w') (hS:∀j,Bk t m j→¬S j):Tb w' B t m r n L:=by
 obtain⟨h1,h2,h3,h4⟩:=h;exact⟨h1,h2,(ht.block t (lt_of_some h3) (hS t (.inl rfl))).trans h3,h4.of_block (ht.block m h4.lt (hS m (.inr rfl)))⟩
theorem Tb.quiet (h:Tb w B t m r n L) (ht:Tn (fun _=>False) w w'):Tb w' B t m r n L:=h.tn ht fun _ _ hc=>hc
theorem Tb.later (h:Tb w B t m r n L) (hb:Below w.heap.size w w'):Tb w' B t m r n L:=h.quiet (Tn.of_below hb _)
theorem Tb.ne (h:Tb w B t m r n L):t≠m:=fun e=>by
 subst e;exact h.2.2.2.not _ _ _ h.2.2.1
theorem Tb.lt (h:Tb w B t m r n L) (j:Nat) (hj:Bk t m j):B≤j∧j<w.heap.size:=by
 rcases hj with rfl |rfl
 ·exact⟨h.1,lt_of_some h.2.2.1⟩
 ·exact⟨h.2.1,h.2.2.2.lt⟩
theorem Tb.nd (h:Tb w B t m r n L):(L.map (·.1)).Nodup:=by
 have:=h.2.2.2.nd;rwa [Jsa] at this
theorem Tb.type (h:Tb w B t m r n L) {j:Nat} (hj:Bk t m j) {cs:Array Value} {ty:TypeId} {f:Nat×Nat} (hc:w.heap[j]?=some (.cells cs ty f)):ty=204:=by
 rcases hj with rfl |rfl
 ·rw [h.2.2.1] at hc
  injection hc with hc;injection hc with _ hc;exact hc.symm
 ·exact absurd hc (h.2.2.2.not _ _ _)
end
structure Kept (w:World) (B t m:Nat) (r n:Int) (L:Cs) (w':World):Prop where
 tb:Tb w' B t m r n L
 tn:Tn (Bk t m) w w'
theorem Kept.below {w w':World} {B t m:Nat} {r n n0:Int} {L L0:Cs} (h:Kept w B t m r n L w') (h0:Tb w B t m r n0 L0) (hB:B≤w.heap.size):Below B w w':=h.tn.below (fun k hk=>(h0.lt k hk).1) hB

theorem zeroCur (w:World):(zeroValue 308).run prog w= .ok (curV c0) w:=by kernel_rfl
def MadeC (w:World) (r:Int) (e:Ending) (w':World):Prop:=∃t m,e= .returned (.pointer (some ⟨t,0,none⟩))∧Tb w' w.heap.size t m r 0 []∧Below w.heap.size w w'
theorem new_any (room r:Int) (w:World) (hr:r=min (max room 1) 1024):
  Calls prog 69 #[.int .i64 room] w (MadeC w r):=by
 obtain⟨m1,hm1⟩:∃m1,max room 1=m1:=⟨_,rfl⟩
 rw [hm1] at hr;have hm2:min m1 1024=r:=hr.symm;have hmm:=@run_makeMap prog;obtain⟨W1,hW1⟩:=words.nm (w.alloc (.map #[] 0));obtain⟨W2,hW2⟩:=words.nm (W1.alloc (.cells #[.int .i64 r,.int .i64 0,.map (some w.heap.size)] 204));have hb1:=words.b1 hW1;have hz:W1.heap.size=w.heap.size+1:=by rw [hW1];simp
 have hb2:Below W1.heap.size W1 W2:=words.b1 hW2;have hm:MapL W1 prog 3 w.heap.size (cR []):=by rw [hW1];exact MapL.made w prog 3
 have HE:Hid (MadeC w r (.returned (.pointer (some ⟨w.heap.size+1,0,none⟩))) W2):=hid ⟨_,w.heap.size,rfl,⟨Nat.le_succ _,Nat.le_refl _,by rw [←hz,hW2];exact heap_alloc_new W1 _,hm.of_block (hb2.block _ hm.lt)⟩,hb1.trans (hb2.mono hb1.size)⟩;clear hr hb1 hz hb2 hm;go_enter func69,ntmps69
 go_wp2
 rw [←hW1,←hW2];clear hW1 hW2;go_ret
 exact HE.out
section
variable (B t m:Nat) (r n:Int) (L:Cs) (x:Int) (w:World)
def gotC (L:Cs) (x:Int):Cu:=(valC L x).getD c0
def gotE (L:Cs) (x:Int):Int:=if (valC L x).isSome then 0 else 9
def GotC (w:World) (c:Cu) (k:Int) (e:Ending) (w':World):Prop:=e= .returned (.tuple #[.agg #[.int .i64 c.ep,.string c.dr,.int .i64 c.at_],.int .i64 k])∧Below w.heap.size w w'
theorem Jtj {w w1 w9:World} {q:Nat} {c:Cu} {cs:Array Value} (hb:Below w.heap.size w w1) (hq:w.heap.size≤q) (hz:w1.heap[q]?=some (.cells cs 308 (0,0))) (hc:cs.size=3)
  (h9:w9=((w1.setCell ⟨q,0,none⟩ (.int .i64 c.ep)).setCell ⟨q,1,none⟩ (.string c.dr)).setCell ⟨q,2,none⟩ (.int .i64 c.at_)):w9.heap[q]?=some (.cells #[.int .i64 c.ep,.string c.dr,.int .i64 c.at_] 308 (0,0))∧Below w.heap.size w w9:=by
 have e:w9=setsV w1 q 0 [.int .i64 c.ep,.string c.dr,.int .i64 c.at_]:=h9;constructor
 ·rw [e]
  exact Jak hz hc.symm
 ·rw [e]
  exact ((Tn.of_below hb (fun k=>k=q)).trans (Jan (S:=fun k=>k=q) _ (.inr rfl) _ _ _ (Tn.refl _ _))).below (fun k hk=>by omega) (Nat.le_refl _)
end
end Go.Proofs.YtkjpgheealfedaaGreatDoor.cur

namespace Go.Proofs.YtkjpgheealfedaaGreatDoor.spc
open Go.RowKit words ext name tre stk

structure Sp (B s t m:Nat) (A:Option Addr) (c:Nat) (L:List (Nat×Int)) (ad ep r n:Int) (C:cur.Cs) (w:World):Prop where
 ge:B≤s
 blk:w.heap[s]?=some (.cells #[.slice A L.length c,.int .i64 ad,.int .i64 ep,.pointer (some ⟨t,0,none⟩)] 111 (0,0))
 tb:cur.Tb w B t m r n C
section
variable {B s t m:Nat} {A:Option Addr} {c:Nat} {L:List (Nat×Int)} {ad ep r n n':Int} {C C':cur.Cs} {w w':World}
theorem Sp.later (h:Sp B s t m A c L ad ep r n C w) (hb:Below w.heap.size w w'):Sp B s t m A c L ad ep r n C w':=⟨h.ge,(hb.block _ (lt_of_some h.blk)).trans h.blk,h.tb.later hb⟩
theorem Sp.ne (h:Sp B s t m A c L ad ep r n C w):¬cur.Bk t m s:=fun hj=>absurd (h.tb.type hj h.blk) (by decide)
theorem Sp.kept (h:Sp B s t m A c L ad ep r n C w) (hk:cur.Kept w B t m r n' C' w') (hB:B≤w.heap.size):Sp B s t m A c L ad ep r n' C' w'∧Below B w w':=
 ⟨⟨h.ge,(hk.tn.block s (lt_of_some h.blk) h.ne).trans h.blk,hk.tb⟩,hk.below h.tb hB⟩
theorem Sp.lt (h:Sp B s t m A c L ad ep r n C w):s<w.heap.size∧t<w.heap.size∧m<w.heap.size:=⟨lt_of_some h.blk,(h.tb.lt t (.inl rfl)).2,(h.tb.lt m (.inr rfl)).2⟩
theorem Sp.low {q:Nat} (h:Sp B s t m A c L ad ep r n C w) (hq:s<q∧t<q∧m<q) (hb:Below q w w'):Sp B s t m A c L ad ep r n C w':=
 ⟨h.ge,(hb.block _ hq.1).trans h.blk,h.tb.tn (S:=fun j=>q≤j) ⟨hb.os,hb.tape,hb.output,hb.size,fun k hk hS=>hb.block k (Nat.lt_of_not_le hS)⟩ fun j hj=>by
   rcases hj with rfl |rfl
   ·exact Nat.not_le_of_lt hq.2.1
   ·exact Nat.not_le_of_lt hq.2.2⟩
end
theorem tb_base {w:World} {B B' t m:Nat} {r n:Int} {C:cur.Cs} (h:cur.Tb w B t m r n C) (hB:B'≤B):cur.Tb w B' t m r n C:=⟨Nat.le_trans hB h.1,Nat.le_trans hB h.2.1,h.2.2⟩
def MadeS (w:World) (A:Option Addr) (c:Nat) (L:List (Nat×Int)) (ad r:Int) (e:Ending) (w':World):Prop:=∃s t m,e= .returned (.pointer (some ⟨s,0,none⟩))∧Sp w.heap.size s t m A c L ad 0 r 0 [] w'∧Below w.heap.size w w'
theorem snew_any (A:Option Addr) (c:Nat) (L:List (Nat×Int)) (ad room r:Int) (w:World) (hr:r=min (max room 1) 1024):
  Calls prog 32 #[.agg #[.slice A L.length c,.int .i64 ad],.int .i64 room] w (MadeS w A c L ad r):=by
 obtain⟨W1,hW1⟩:=words.nm (w.alloc (.cells #[.slice A L.length c,.int .i64 ad] 29));have hb1:=words.b1 hW1;have HS:=hid (show W1.heap[w.heap.size]?=some (.cells #[.slice A L.length c,.int .i64 ad] 29 (0,0)) by rw [hW1];exact heap_alloc_new w _);have HB1:=hid hb1;have HW1:=hid hW1;have HSS:Hid (∀w':World,Below W1.heap.size W1 w'→(w'.cell? ⟨w.heap.size,0,none⟩=some (.slice A L.length c)∧w'.cell? ⟨w.heap.size,1,none⟩=some (.int .i64 ad)∧Below W1.heap.size W1 w')):=hid fun w' hb=>by
  have e1:=(hb.block _ (lt_of_some HS.out)).trans HS.out;exact⟨Jaa e1 0,Jaa e1 1,hb⟩
 have HBv:Hid (Below W1.heap.size W1 W1.drew):=hid (Below.refl _ _).drew;have HC:Hid (∀w':World,Calls prog 69 #[.int .i64 room] w' (cur.MadeC w' r)):=hid fun w'=>cur.new_any room r w' hr;clear hW1 hb1 hr;go_enter func32,ntmps32
 go_upto_region 1 with fail
 rw [←HW1.out];clear HW1;refine wp_region_held_drew (S:=fun w'=>(w'.cell? ⟨w.heap.size,0,none⟩=some (.slice A L.length c)∧w'.cell? ⟨w.heap.size,1,none⟩=some (.int .i64 ad)∧Below W1.heap.size W1 w')) (by kernel_rfl) (HSS.out _ HBv.out) (fun hHeld=>?_);refine words.tk 0 5 (v:=?_) ?_ ?_
 rotate_left 1
 ·intro _ h;(try dsimp only at h);go_simp;(try with_reducible rfl)
 try simp only [words.pt]
 refine words.tk 1 6 (v:=?_) ?_ ?_
 rotate_left 1
 ·intro _ h;(try dsimp only at h);go_simp;(try with_reducible rfl)
 try simp only [words.pt]
 refine wpAnyH_ready (rs:=[2]) (by kernel_rfl) (by simp) (.cons rfl (fun K hK=>?_) .nil);go_simp
 go_at_call 69
 refine (HC.out _).mono ?_;rintro en v1 ⟨t,m,rfl,htb,hv1⟩;have hq1:=HBv.out.trans (hv1.mono HBv.out.size);clear hHeld;refine hK.out _ _ (HSS.out _ hq1) (fun hHeld=>?_);clear hK;refine words.tk 3 8 (v:=?_) ?_ ?_
 rotate_left 1
 ·intro _ h;(try dsimp only at h);go_simp;(try with_reducible rfl)
 try simp only [words.pt]
 refine wpAnyH_ready (rs:=[4]) (by kernel_rfl) (by simp) (.cons rfl (fun K hK=>?_) .nil);go_simp
 clear hHeld;refine hK.out _ _ (HSS.out _ (hq1.alloc (Nat.le_trans HBv.out.size hv1.size) _)) (fun hHeld=>?_);clear hK;refine words.tk 5 4 (v:=?_) ?_ ?_
 rotate_left 1
 ·intro _ h;(try dsimp only at h);go_simp;(try with_reducible rfl)
 try simp only [words.pt]
 refine wpAnyH_done (by kernel_rfl) ?_ _;clear hHeld;obtain⟨V,hV⟩:=words.nm (v1.alloc (.cells #[.slice A L.length c,.int .i64 ad,.int .i64 0,.pointer (some ⟨t,0,none⟩)] 111));have hbV:Below v1.heap.size v1 V:=words.b1 hV;have hxV:V.heap[v1.heap.size]?=some (.cells #[.slice A L.length c,.int .i64 ad,.int .i64 0,.pointer (some ⟨t,0,none⟩)] 111 (0,0)):=by rw [hV];exact heap_alloc_new v1 _
 have hbw:=HB1.out.trans ((hq1.trans (hbV.mono hq1.size)).mono HB1.out.size);have HEnd:Hid (MadeS w A c L ad r (.returned (.pointer (some ⟨v1.heap.size,0,none⟩))) V):=hid ⟨_,t,m,rfl,⟨Nat.le_trans HB1.out.size hq1.size,hxV,tb_base (htb.later hbV) (Nat.le_trans HB1.out.size HBv.out.size)⟩,hbw⟩;have HV:=hid hV;clear hV hbV hxV hbw htb hv1 hq1 HSS HBv HC;rw [←HV.out];go_wp2_with fail
 go_ret
 exact HEnd.out
end Go.Proofs.YtkjpgheealfedaaGreatDoor.spc

namespace Go.Proofs.YtkjpgheealfedaaGreatDoor.mpk
open Go.RowKit Go.Maps words lru

def heldR (v:Value):Option (DataW Value×List MemPlace):=some (.held v,[])
def orElse (o:Option Value) (z:DataW Value):DataW Value:=match o with
 |some v=> .held v
 |none=>z
section
variable {κ:Type} {kv:κ→Value} {kl:κ→Lit}
structure Keys (P:Program) (k:TypeId) (kv:κ→Value) (kl:κ→Lit):Prop where
 keyed:Keyed P k
 of:∀x,keyOf P k (kv x)=some (kl x)
 inj:∀{x y},kl x=kl y→x=y
 is:∀x,WideAt.IsKeyLit (kl x)
theorem Keys.ne {P:Program} {k:TypeId} (h:Keys P k kv kl) {x y:κ} (e:x≠y):kl x≠kl y:=fun he=>e (h.inj he)
variable [DecidableEq κ]

def valP:List (κ×Value)→κ→Option Value
 |[],_=>none
 |(y,v)::L,x=>if x=y then some v else valP L x
def delL (L:List (κ×Value)) (x:κ):List (κ×Value):=L.filter fun p=> !(p.1==x)
theorem Ja6 {x:κ}:∀{L:List (κ×Value)},valP L x=none↔∀p∈L,p.1≠x
 |[]=>by simp [valP]
 |(y,v)::L=>by
  unfold valP;by_cases h:x=y
  ·subst h;simp
  ·rw [if_neg h,Ja6 (L:=L)]
   constructor
   ·intro hL p hp
    rcases List.mem_cons.1 hp with rfl |hp
    ·exact fun e=>h e.symm
    ·exact hL p hp
   ·exact fun hL p hp=>hL p (List.mem_cons_of_mem _ hp)
theorem Jct (x:κ) (v:Value) (y:κ):∀(L:List (κ×Value)),valP L x=none→valP (L++[(x,v)]) y=if y=x then some v else valP L y
 |[],_=>by simp [valP]
 |(z,u)::L,h=>by
  have hz:x≠z:=fun e=>by unfold valP at h;rw [if_pos e] at h;cases h
  have hL:valP L x=none:=by unfold valP at h;rwa [if_neg hz] at h
  rw [List.cons_append];unfold valP;rw [Jct x v y L hL];by_cases e:y=z
  ·subst e;rw [if_pos rfl,if_pos rfl,if_neg (fun e=>hz e.symm)]
  ·rw [if_neg e,if_neg e]
theorem Jdr (x y:κ):∀(L:List (κ×Value)),valP (delL L x) y=if y=x then none else valP L y
 |[]=>by simp [delL,valP]
 |(z,u)::L=>by
  have ih:=Jdr x y L;unfold delL at ih ⊢;by_cases hz:z=x
  ·subst hz
   rw [List.filter_cons_of_neg (by simp),ih];by_cases e:y=z
   ·rw [if_pos e,if_pos e]
   ·simp only [valP,if_neg e]
  ·rw [List.filter_cons_of_pos (by simp [hz])]
   unfold valP;rw [ih];by_cases e:y=z
   ·subst e;rw [if_pos rfl,if_pos rfl,if_neg hz]
   ·rw [if_neg e,if_neg e]
theorem Jgf {L:List (κ×Value)} (x:κ) (h:(L.map (·.1)).Nodup):((delL L x).map (·.1)).Nodup:=by
 unfold delL;exact (List.filter_sublist.map _).nodup h
theorem Jhl {L:List (κ×Value)} {x:κ} (h:valP L x=none):delL L x=L:=by
 unfold delL;rw [List.filter_eq_self];intro p hp;simpa using Ja6.1 h p hp
theorem Jj2 {L:List (κ×Value)} {x:κ} (nd:(L.map (·.1)).Nodup):(delL L x).length+(if (valP L x).isSome then 1 else 0)=L.length:=by
 induction L with
 |nil=>simp [delL,valP]
 |cons p L ih=>
  obtain⟨z,u⟩:=p;rw [List.map_cons,List.nodup_cons] at nd;have ih:=ih nd.2;by_cases hz:x=z
  ·subst hz
   have hn:valP L x=none:=Ja6.2 fun p hp e=>nd.1 (by rw [←e];exact List.mem_map.2 ⟨_,hp,rfl⟩);have hd:=Jhl hn;unfold delL at hd ⊢;rw [List.filter_cons_of_neg (by simp),hd];simp [valP]
  ·unfold delL at ih ⊢
   rw [List.filter_cons_of_pos (by simp;exact fun e=>hz e.symm)];unfold valP;rw [if_neg hz,List.length_cons,List.length_cons];omega
theorem Jee {L:List (κ×Value)} {x:κ} {v:Value} (nd:(L.map (·.1)).Nodup) (h:valP L x=none):((L++[(x,v)]).map (·.1)).Nodup:=by
 rw [List.map_append,List.nodup_append];refine⟨nd,by simp,fun a ha b hb=>?_⟩;obtain⟨p,hp,rfl⟩:=List.mem_map.1 ha;have:b=x:=by simpa using hb
 subst this;exact Ja6.1 h p hp

def MapL (kl:κ→Lit) (w:World) (P:Program) (k:TypeId) (b:Nat) (L:List (κ×Value)):Prop:=
 ∃D,w.ownsMap P k heldR b L.length D∧(∀x z,D.atKey (kl x) z=orElse (valP L x) z)∧Maps.size D=L.length∧(L.map (·.1)).Nodup
section
variable {P:Program} {k:TypeId} {w w':World} {b:Nat} {L:List (κ×Value)}
theorem Jcp {n:Nat} {D:DataW Value} (h:w.ownsMap P k heldR b n D) {m:Nat} (hm:Maps.size D≤m):w.ownsMap P k heldR b m D:=by
 obtain⟨es,clock,h1,h2,h3,rfl⟩:=h;exact⟨es,clock,h1,h2,by simpa [Maps.size,length_sorted] using hm,rfl⟩
theorem MapL.made (w:World) (P:Program) (k:TypeId):MapL kl (w.alloc (.map #[] 0)) P k w.heap.size []:=
 ⟨_,World.ownsMap_made w P k heldR,fun _ _=>rfl,rfl,List.nodup_nil⟩
theorem MapL.nd (h:MapL kl w P k b L):(L.map (·.1)).Nodup:=by
 obtain⟨D,_,_,_,h⟩:=h;exact h
theorem MapL.of_block (h:MapL kl w P k b L) (hb:w'.heap[b]?=w.heap[b]?):MapL kl w' P k b L:=by
 obtain⟨D,⟨es,clock,h1,h2⟩,hf⟩:=h;exact⟨D,⟨es,clock,hb.trans h1,h2⟩,hf⟩
theorem MapL.lt (h:MapL kl w P k b L):b<w.heap.size:=by
 obtain⟨D,ho,_⟩:=h;exact ho.lt
theorem MapL.not (h:MapL kl w P k b L) (cs:Array Value) (t:TypeId) (q:Nat×Nat):w.heap[b]?≠some (.cells cs t q):=fun hg=>by
 obtain⟨D,⟨es,clock,h1,_⟩,_⟩:=h;rw [h1] at hg;cases hg
theorem MapL.look {t e:TypeId} (h:MapL kl w P k b L) (hk:Keys P k kv kl) (ht:P.underlying t=some (.map k e)) {z:Value} (hz:(zeroValue e).run P w= .ok z w) {x:κ}:
  (Instr.lookup t (.map (some b)) (kv x) false).run P w= .ok ((valP L x).getD z) w:=by
 obtain⟨D,ho,hf,_⟩:=h;obtain⟨v,ps,hr,hv⟩:=ho.lookup (hk.keyed) ht hz (zd:= .held z) (zp:=[]) rfl (key:=kv x) (kl:=kl x) (hk.of x);rw [hr];have h1:DataW.held v=D.atKey (kl x) (.held z):=congrArg Prod.fst (Option.some.inj hv);rw [hf] at h1;rcases hL:valP L x with _ |u
 ·rw [hL] at h1;rw [DataW.held.inj h1];rfl
 ·rw [hL] at h1;rw [DataW.held.inj h1];rfl
theorem MapL.look_ok {t e:TypeId} (h:MapL kl w P k b L) (hk:Keys P k kv kl) (ht:P.underlying t=some (.map k e)) {z:Value} (hz:(zeroValue e).run P w= .ok z w) {x:κ}:
  (Instr.lookup t (.map (some b)) (kv x) true).run P w= .ok (.tuple #[(valP L x).getD z,.bool (valP L x).isSome]) w:=by
 obtain⟨D,ho,hf,_⟩:=h;obtain⟨v,ps,hr,hv⟩:=ho.look_ok (hk.keyed) ht hz (zd:= .held z) (zp:=[]) rfl (key:=kv x) (kl:=kl x) (hk.of x);have h1:DataW.held v=D.atKey (kl x) (.held z):=congrArg Prod.fst (Option.some.inj hv);have hh:Maps.has D (kl x)=(valP L x).isSome:=by
  have h1:=hf x;rcases hfs:valP L x with _ |u
  ·exact has_false_of_atKey fun z=>by rw [h1 z,hfs];rfl
  ·exact has_true_of_atKey (y:= .held u) fun z=>by rw [h1 z,hfs];rfl
 rw [hr,hh];rw [hf] at h1;rcases hL:valP L x with _ |u
 ·rw [hL] at h1;rw [DataW.held.inj h1];rfl
 ·rw [hL] at h1;rw [DataW.held.inj h1];rfl
theorem MapL.len {t e:TypeId} (h:MapL kl w P k b L) (ht:P.underlying t=some (.map k e)) (ty:TypeId):(Builtin.len_ #[t] ty #[.map (some b)]).run P w= .ok (.int .i64 (L.length:Int)) w:=by
 obtain⟨D,ho,_,hs,_⟩:=h;rw [ho.len ht ty,hs]
theorem MapL.has {D:DataW Value} (hf:∀x z,D.atKey (kl x) z=orElse (valP L x) z) (x:κ):Maps.has D (kl x)=(valP L x).isSome:=by
 have h1:=hf x;rcases hfs:valP L x with _ |u
 ·exact has_false_of_atKey fun z=>by rw [h1 z,hfs];rfl
 ·exact has_true_of_atKey (y:= .held u) fun z=>by rw [h1 z,hfs];rfl
theorem Jco (h:w.mapTurned w' b):Tn (fun j=>j=b) w w':=by
 have hg:=h.grown;exact⟨hg.os,hg.tape,hg.output,hg.size,fun j hj hn=>hg.block j hj fun e=>hn (by injection e)⟩
theorem MapL.drop {t e:TypeId} (h:MapL kl w P k b L) (hk:Keys P k kv kl) (ht:P.underlying t=some (.map k e)) {x:κ} (ty:TypeId):
  ∃w',(Builtin.delete_ #[t,k] ty #[.map (some b),kv x]).run P w= .ok (.tuple #[]) w'∧MapL kl w' P k b (delL L x)∧Tn (fun j=>j=b) w w':=by
 obtain⟨D,ho,hf,hs,nd⟩:=h;obtain⟨w',hr,h1,h2⟩:=ho.drop (hk.keyed) ht (key:=kv x) (kl:=kl x) (hk.of x) ty;have hz:Maps.size (D.del (kl x))=(delL L x).length:=by
  have e1:=Maps.size_del (k:=kl x) (ho.tidy (hk.keyed));rw [MapL.has hf x,hs] at e1;have e2:=Jj2 (x:=x) nd;omega
 refine⟨w',hr,⟨_,Jcp h1 (Nat.le_of_eq hz),fun y z=>?_,hz,Jgf x nd⟩,Jco h2⟩;rw [Jdr];by_cases e:y=x
 ·subst e
  rw [atKey_del_same,if_pos rfl];rfl
 ·rw [atKey_del_other (hk.ne e),if_neg e,hf]
theorem MapL.put_fn (hk:Keys P k kv kl) {D:DataW Value} (hD:IsMap D) (hf:∀x z,D.atKey (kl x) z=orElse (valP L x) z) (x:κ) (v:Value) (y:κ) (z:DataW Value):(D.put (kl x) (.held v)).atKey (kl y) z=orElse (if y=x then some v else valP L y) z:=by
 by_cases h:y=x
 ·subst h
  rw [if_pos rfl,atKey_put_same hD (hk.is y)];rfl
 ·rw [if_neg h,atKey_put_other (hk.ne h),hf]
theorem MapL.store_new {t e:TypeId} (h:MapL kl w P k b L) (hk:Keys P k kv kl) (ht:P.underlying t=some (.map k e)) {x:κ} (v:Value) (hn:L.length<maxLen) (hno:valP L x=none):
  ∃w',(Instr.mapUpdate t (.map (some b)) (kv x) v).run P w= .ok () w'∧MapL kl w' P k b (L++[(x,v)])∧Tn (fun j=>j=b) w w':=by
 obtain⟨D,ho,hf,hs,nd⟩:=h;obtain⟨w',hr,h1,h2⟩:=ho.store (hk.keyed) ht hn (key:=kv x) (val:=v) (kl:=kl x) (d:= .held v) (ps:=[]) (hk.of x) rfl;have hz:Maps.size (D.put (kl x) (.held v))=(L++[(x,v)]).length:=by
  rw [Maps.size_put (ho.tidy (hk.keyed)),MapL.has hf x,hno,hs,List.length_append];rfl
 refine⟨w',hr,⟨_,Jcp h1 (Nat.le_of_eq hz),fun y z=>?_,hz,Jee nd hno⟩,Jco h2⟩;rw [MapL.put_fn hk ho.isMap hf,Jct x v y L hno]
end

section
variable {P:Program} {w:World} {ops:Array Oper} {rest:List Oper} {o:Oper} {a:Act} {Q:Exit→Act→World→Prop}
theorem wpList_new (hg:o.guard=none) (m x u:Operand) (t:TypeId) (hop:o.op=Op.mapUpdate t m x u) (k e:TypeId) (hk:Keys P k kv kl) (ht:P.underlying t=some (.map k e)) (b:Nat) (L:List (κ×Value))
  (hm:a.eval m= .map (some b)) (h:MapL kl w P k b L) (hn:L.length<maxLen) (key:κ) (v:Value) (hx:a.eval x=kv key) (hu:a.eval u=v) (hno:valP L key=none)
  (hK:∀w',MapL kl w' P k b (L++[(key,v)])→Tn (fun j=>j=b) w w'→wpList P ops Q rest (a.put o.dst undef) w'):
  wpList P ops Q (o::rest) a w:=by
 refine wpList_plain hg fun K' hK'=>?_;obtain⟨w',hrun,r1,r2⟩:=h.store_new hk ht (x:=key) v hn hno;unfold Oper.wp;simp [execOp,hop,hm,hx,hu,hrun,Result.andThen];exact hK' _ _ (hK w' r1 r2)
end
end
end Go.Proofs.YtkjpgheealfedaaGreatDoor.mpk

namespace Go.Proofs.YtkjpgheealfedaaGreatDoor.svr
open Go.RowKit Go.Maps words lru

abbrev Lk:=Bool×Fin 256
def kvL (x:Lk):Value:= .agg #[.bool x.1,.int .i64 ((x.2.val:Nat):Int)]
def kl0 (P:Program) (k:TypeId) (x:Lk):Lit:=match keyOf P k (kvL x) with
 |some l=>l
 |none=> .nil
theorem Jsf {x y:Lk} (h:kvL x=kvL y):x=y:=by
 obtain⟨a,b⟩:=x;obtain⟨c,d⟩:=y;unfold kvL at h;simp at h;obtain⟨rfl,h2⟩:=h;rw [Fin.ext (by omega:b.val=d.val)]
theorem Jg3 (x:Lk):keyOf prog 62 (kvL x)=some (kl0 prog 62 x):=by
 have h:∀(b:Bool) (n:Fin 256),(keyOf prog 62 (kvL (b,n))).isSome=true:=by decide+kernel
 obtain⟨b,n⟩:=x;obtain⟨l,hl⟩:=Option.isSome_iff_exists.1 (h b n);unfold kl0;rw [hl]
theorem keyedL:Keyed prog 62:=Keyed.of_law (deep_law_gate (by kernel_rfl) (by decide+kernel) (by decide+kernel) (by kernel_rfl) (by kernel_rfl))
theorem keysL:mpk.Keys prog 62 kvL (kl0 prog 62):=
 ⟨keyedL,Jg3,fun {x y} h=>Jsf (keyedL.inj (Jg3 x) (by rw [h];exact Jg3 y)),fun x=>keyedL.key (Jg3 x)⟩
def kR (K:List (Lk×Int)):List (Lk×Value):=K.map fun p=>(p.1,.int .i64 p.2)
def valK:List (Lk×Int)→Lk→Option Int
 |[],_=>none
 |(y,v)::K,x=>if x=y then some v else valK K x
theorem Jq9 (K:List (Lk×Int)):(kR K).length=K.length:=List.length_map ..
theorem Jrs (K:List (Lk×Int)) (x:Lk) (v:Int):kR (K++[(x,v)])=kR K++[(x,.int .i64 v)]:=by unfold kR;rw [List.map_append];rfl
theorem Jne (x:Lk):∀K:List (Lk×Int),mpk.valP (kR K) x=(valK K x).map fun v=> .int .i64 v
 |[]=>rfl
 |(y,v)::K=>by
  show (if x=y then some (Value.int .i64 v) else mpk.valP (kR K) x)=_;unfold valK;rw [Jne x K];by_cases h:x=y
  ·rw [if_pos h,if_pos h];rfl
  ·rw [if_neg h,if_neg h]
end Go.Proofs.YtkjpgheealfedaaGreatDoor.svr
