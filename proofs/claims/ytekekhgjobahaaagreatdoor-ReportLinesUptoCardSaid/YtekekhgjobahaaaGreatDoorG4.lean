import Derived.Test.YtekekhgjobahaaaGreatDoorG3
import Derived.Lib.MinMax
import Derived.StillTailTactics
import Derived.Deep.Cut
import Derived.WalkSpells
import Derived.WalkLawsBesides
import Derived.BigQuiet
import Derived.Test.YtekekhgjobahaaaGreatDoorChecked
set_option maxHeartbeats 800000
set_option maxRecDepth 100000
open Go.Lib (hid)
open Go.Proofs.Tryz
namespace Go.Proofs.YtekekhgjobahaaaGreatDoor.mpi
open Go.RowKit Go.Maps words lru

abbrev Pr:=Int×Value
def heldR (v:Value):Option (DataW Value×List MemPlace):=some (.held v,[])
def orElse (o:Option Value) (z:DataW Value):DataW Value:=match o with
 |some v=> .held v
 |none=>z
def keyI (x:Int):Lit:= .int .i64 x
theorem Jmn {x y:Int} (h:x≠y):keyI x≠keyI y:=fun he=>h (by injection he)
def Fits (x:Int):Prop:=(Lit.int .i64 x).wf=true
def valP:List Pr→Int→Option Value
 |[],_=>none
 |(y,v)::L,x=>if x=y then some v else valP L x
def delL (L:List Pr) (x:Int):List Pr:=L.filter fun p=> !(p.1==x)
theorem Jaw {x:Int}:∀{L:List Pr},valP L x=none↔∀p∈L,p.1≠x
 |[]=>by simp [valP]
 |(y,v)::L=>by
  unfold valP;by_cases h:x=y
  ·subst h;simp
  ·rw [if_neg h,Jaw (L:=L)]
   constructor
   ·intro hL p hp
    rcases List.mem_cons.1 hp with rfl |hp
    ·exact fun e=>h e.symm
    ·exact hL p hp
   ·exact fun hL p hp=>hL p (List.mem_cons_of_mem _ hp)
theorem Jb1 (x y:Int):∀(L:List Pr),valP (delL L x) y=if y=x then none else valP L y
 |[]=>by simp [delL,valP]
 |(z,u)::L=>by
  have ih:=Jb1 x y L;unfold delL at ih ⊢;by_cases hz:z=x
  ·subst hz
   rw [List.filter_cons_of_neg (by simp),ih];by_cases e:y=z
   ·rw [if_pos e,if_pos e]
   ·simp only [valP,if_neg e]
  ·rw [List.filter_cons_of_pos (by simp [hz])]
   unfold valP;rw [ih];by_cases e:y=z
   ·subst e;rw [if_pos rfl,if_pos rfl,if_neg hz]
   ·rw [if_neg e,if_neg e]
theorem Jcq {L:List Pr} (x:Int) (h:(L.map (·.1)).Nodup):((delL L x).map (·.1)).Nodup:=by
 unfold delL;exact (List.filter_sublist.map _).nodup h
theorem Jeb {L:List Pr} {x:Int} (h:valP L x=none):delL L x=L:=by
 unfold delL;rw [List.filter_eq_self];intro p hp;simpa using Jaw.1 h p hp
theorem Jfy {L:List Pr} {x:Int} (nd:(L.map (·.1)).Nodup):(delL L x).length+(if (valP L x).isSome then 1 else 0)=L.length:=by
 induction L with
 |nil=>simp [delL,valP]
 |cons p L ih=>
  obtain⟨z,u⟩:=p;rw [List.map_cons,List.nodup_cons] at nd;have ih:=ih nd.2;by_cases hz:x=z
  ·subst hz
   have hn:valP L x=none:=Jaw.2 fun p hp e=>nd.1 (by rw [←e];exact List.mem_map.2 ⟨_,hp,rfl⟩);have hd:=Jeb hn;unfold delL at hd ⊢;rw [List.filter_cons_of_neg (by simp),hd];simp [valP]
  ·unfold delL at ih ⊢
   rw [List.filter_cons_of_pos (by simp;exact fun e=>hz e.symm)];unfold valP;rw [if_neg hz,List.length_cons,List.length_cons];omega
def MapL (w:World) (P:Program) (k:TypeId) (b:Nat) (L:List Pr):Prop:=
 ∃D,w.ownsMap P k heldR b L.length D∧(∀x z,D.atKey (keyI x) z=orElse (valP L x) z)∧Maps.size D=L.length∧(L.map (·.1)).Nodup
section
variable {P:Program} {k:TypeId} {w w':World} {b:Nat} {L:List Pr}
theorem Jcw {n:Nat} {D:DataW Value} (h:w.ownsMap P k heldR b n D) {m:Nat} (hm:Maps.size D≤m):w.ownsMap P k heldR b m D:=by
 obtain⟨es,clock,h1,h2,h3,rfl⟩:=h;exact⟨es,clock,h1,h2,by simpa [Maps.size,length_sorted] using hm,rfl⟩
theorem MapL.made (w:World) (P:Program) (k:TypeId):MapL (w.alloc (.map #[] 0)) P k w.heap.size []:=
 ⟨_,World.ownsMap_made w P k heldR,fun _ _=>rfl,rfl,List.nodup_nil⟩
theorem MapL.nd (h:MapL w P k b L):(L.map (·.1)).Nodup:=by
 obtain⟨D,_,_,_,h⟩:=h;exact h
theorem MapL.of_block (h:MapL w P k b L) (hb:w'.heap[b]?=w.heap[b]?):MapL w' P k b L:=by
 obtain⟨D,⟨es,clock,h1,h2⟩,hf⟩:=h;exact⟨D,⟨es,clock,hb.trans h1,h2⟩,hf⟩
theorem MapL.lt (h:MapL w P k b L):b<w.heap.size:=by
 obtain⟨D,ho,_⟩:=h;exact ho.lt
theorem MapL.not (h:MapL w P k b L) (cs:Array Value) (t:TypeId) (q:Nat×Nat):w.heap[b]?≠some (.cells cs t q):=fun hg=>by
 obtain⟨D,⟨es,clock,h1,_⟩,_⟩:=h;rw [h1] at hg;cases hg
theorem MapL.look_ok {t e:TypeId} (h:MapL w P k b L) (hk:P.underlying k=some (.int .i64)) (ht:P.underlying t=some (.map k e)) {z:Value} (hz:(zeroValue e).run P w= .ok z w) {x:Int} (hx:Fits x):
  (Instr.lookup t (.map (some b)) (.int .i64 x) true).run P w= .ok (.tuple #[(valP L x).getD z,.bool (valP L x).isSome]) w:=by
 obtain⟨D,ho,hf,_⟩:=h;obtain⟨v,ps,hr,hv⟩:=ho.look_ok (int_keyed hk) ht hz (zd:= .held z) (zp:=[]) rfl (key:= .int .i64 x) (kl:=keyI x) (keyOf_int_mk hk hx);have h1:DataW.held v=D.atKey (keyI x) (.held z):=congrArg Prod.fst (Option.some.inj hv);have hh:Maps.has D (keyI x)=(valP L x).isSome:=by
  have h1:=hf x;rcases hfs:valP L x with _ |u
  ·exact has_false_of_atKey fun z=>by rw [h1 z,hfs];rfl
  ·exact has_true_of_atKey (y:= .held u) fun z=>by rw [h1 z,hfs];rfl
 rw [hr,hh];rw [hf] at h1;rcases hL:valP L x with _ |u
 ·rw [hL] at h1;rw [DataW.held.inj h1];rfl
 ·rw [hL] at h1;rw [DataW.held.inj h1];rfl
theorem MapL.len {t e:TypeId} (h:MapL w P k b L) (ht:P.underlying t=some (.map k e)) (ty:TypeId):(Builtin.len_ #[t] ty #[.map (some b)]).run P w= .ok (.int .i64 (L.length:Int)) w:=by
 obtain⟨D,ho,_,hs,_⟩:=h;rw [ho.len ht ty,hs]
theorem MapL.has {D:DataW Value} (hf:∀x z,D.atKey (keyI x) z=orElse (valP L x) z) (x:Int):Maps.has D (keyI x)=(valP L x).isSome:=by
 have h1:=hf x;rcases hfs:valP L x with _ |u
 ·exact has_false_of_atKey fun z=>by rw [h1 z,hfs];rfl
 ·exact has_true_of_atKey (y:= .held u) fun z=>by rw [h1 z,hfs];rfl
theorem Jcz (h:w.mapTurned w' b):Tn (fun j=>j=b) w w':=by
 have hg:=h.grown;exact⟨hg.os,hg.tape,hg.output,hg.size,fun j hj hn=>hg.block j hj fun e=>hn (by injection e)⟩
theorem MapL.drop {t e:TypeId} (h:MapL w P k b L) (hk:P.underlying k=some (.int .i64)) (ht:P.underlying t=some (.map k e)) {x:Int} (hx:Fits x) (ty:TypeId):
  ∃w',(Builtin.delete_ #[t,k] ty #[.map (some b),.int .i64 x]).run P w= .ok (.tuple #[]) w'∧MapL w' P k b (delL L x)∧Tn (fun j=>j=b) w w':=by
 obtain⟨D,ho,hf,hs,nd⟩:=h;obtain⟨w',hr,h1,h2⟩:=ho.drop (int_keyed hk) ht (key:= .int .i64 x) (kl:=keyI x) (keyOf_int_mk hk hx) ty;have hz:Maps.size (D.del (keyI x))=(delL L x).length:=by
  have e1:=Maps.size_del (k:=keyI x) (ho.tidy (int_keyed hk));rw [MapL.has hf x,hs] at e1;have e2:=Jfy (x:=x) nd;omega
 refine⟨w',hr,⟨_,Jcw h1 (Nat.le_of_eq hz),fun y z=>?_,hz,Jcq x nd⟩,Jcz h2⟩;rw [Jb1];by_cases e:y=x
 ·subst e
  rw [atKey_del_same,if_pos rfl];rfl
 ·rw [atKey_del_other (Jmn e),if_neg e,hf]
end

def At (v:Value) (j:Nat):Prop:=v= .map (some j)
section
variable {P:Program} {k:TypeId} {w w':World} {B:Nat} {v:Value} {L:List Pr}
end
section
variable {P:Program} {w:World} {ops:Array Oper} {rest:List Oper} {o:Oper} {a:Act} {Q:Exit→Act→World→Prop}
end
end Go.Proofs.YtekekhgjobahaaaGreatDoor.mpi

namespace Go.Proofs.YtekekhgjobahaaaGreatDoor.lru
open Go.RowKit words

def setsV (w:World) (b:Nat):Nat→List Value→World
 |_,[]=>w
 |o,v::vs=>setsV (w.setCell ⟨b,o,none⟩ v) b (o+1) vs
theorem Jbp (b:Nat) {S:Nat→Prop} {a:World} (hb:a.heap.size≤b∨S b):∀(vs:List Value) (o:Nat) (w:World),Tn S a w→Tn S a (setsV w b o vs)
 |[],_,_,h=>h
 |v::vs,o,_,h=>Jbp b hb vs (o+1) _ (h.setCell (p:=⟨b,o,none⟩) hb v)
theorem Jes {t:TypeId} (b:Nat):∀(vs:List Value) (o:Nat) (w:World) (cur:List Value),w.heap[b]?=some (.cells cur.toArray t (0,0))→o+vs.length≤cur.length→
  (setsV w b o vs).heap[b]?=some (.cells (cur.take o++vs++cur.drop (o+vs.length)).toArray t (0,0))
 |[],o,w,cur,h,_=>by simpa [setsV] using h
 |v::vs,o,w,cur,h,hl=>by
  have hs:(w.setCell ⟨b,o,none⟩ v).heap[b]?=some (.cells (cur.set o v).toArray t (0,0)):=by
   have:=heap_setCell_same w b o cur.toArray t v h;rw [this];simp
  have:=Jes b vs (o+1) _ _ hs (by rw [List.length_set];simp at hl;omega);unfold setsV;rw [this];congr 3;have ho:o<cur.length:=by simp at hl;omega
  apply List.ext_getElem?;intro j;rw [List.drop_set_of_lt (by omega),List.take_set,List.length_cons];have e1:(cur.take (o+1)).set o v=cur.take o++[v]:=by
   rw [List.take_succ_eq_append_getElem ho,List.set_append_right _ _ (by simp [Nat.min_eq_left (Nat.le_of_lt ho)])];simp [Nat.min_eq_left (Nat.le_of_lt ho)]
  rw [e1,show o+1+vs.length=o+(vs.length+1) by omega];simp
theorem Jbc {t:TypeId} {b:Nat} {vs:List Value} {w:World} {cur:Array Value} (h:w.heap[b]?=some (.cells cur t (0,0))) (hl:vs.length=cur.size):(setsV w b 0 vs).heap[b]?=some (.cells vs.toArray t (0,0)):=by
 have:=Jes (t:=t) b vs 0 w cur.toList (by simpa using h) (by simp;omega);rw [this];congr 2;simp [hl]
end Go.Proofs.YtekekhgjobahaaaGreatDoor.lru

namespace Go.Proofs.YtekekhgjobahaaaGreatDoor.cur
open Go.RowKit words lru mpi

structure Cu where
 ep:Int
 dr:ByteArray
 at_:Int
def c0:Cu:=⟨0,⟨#[]⟩,0⟩
def curV (c:Cu):Value:= .agg #[.int .i64 c.ep,.string c.dr,.int .i64 c.at_]
abbrev Cs:=List (Int×Cu)
def cR (L:Cs):List Pr:=L.map fun p=>(p.1,curV p.2)
def valC:Cs→Int→Option Cu
 |[],_=>none
 |(y,c)::L,x=>if x=y then some c else valC L x
theorem Jnb (L:Cs):(cR L).length=L.length:=List.length_map ..
theorem Jlg (x:Int):∀L:Cs,valP (cR L) x=(valC L x).map curV
 |[]=>rfl
 |(y,c)::L=>by
  have ih:=Jlg x L;unfold cR at ih ⊢;rw [List.map_cons];unfold valP valC;rw [ih];split<;>rfl
theorem Jlx (L:Cs):(cR L).map (·.1)=L.map (·.1):=by unfold cR;rw [List.map_map];rfl
def Tb (w:World) (B t m:Nat) (r n:Int) (L:Cs):Prop:=
 B≤t∧B≤m∧w.heap[t]?=some (.cells #[.int .i64 r,.int .i64 n,.map (some m)] 128 (0,0))∧MapL w prog 3 m (cR L)
def Bk (t m:Nat) (j:Nat):Prop:=j=t∨j=m
section
variable {S:Nat→Prop} {w w':World} {B t m:Nat} {r n:Int} {L:Cs}
theorem Tb.tn (h:Tb w B t m r n L) (ht:Tn S w w') (hS:∀j,Bk t m j→¬S j):Tb w' B t m r n L:=by
 obtain⟨h1,h2,h3,h4⟩:=h;exact⟨h1,h2,(ht.block t (lt_of_some h3) (hS t (.inl rfl))).trans h3,h4.of_block (ht.block m h4.lt (hS m (.inr rfl)))⟩
theorem Tb.quiet (h:Tb w B t m r n L) (ht:Tn (fun _=>False) w w'):Tb w' B t m r n L:=h.tn ht fun _ _ hc=>hc
theorem Tb.later (h:Tb w B t m r n L) (hb:Below w.heap.size w w'):Tb w' B t m r n L:=h.quiet (Tn.of_below hb _)
theorem Tb.ne (h:Tb w B t m r n L):t≠m:=fun e=>by
 subst e;exact h.2.2.2.not _ _ _ h.2.2.1
theorem Tb.lt (h:Tb w B t m r n L) (j:Nat) (hj:Bk t m j):B≤j∧j<w.heap.size:=by
 rcases hj with rfl |rfl
 ·exact⟨h.1,lt_of_some h.2.2.1⟩
 ·exact⟨h.2.1,h.2.2.2.lt⟩
theorem Tb.nd (h:Tb w B t m r n L):(L.map (·.1)).Nodup:=by
 have:=h.2.2.2.nd;rwa [Jlx] at this
theorem Tb.type (h:Tb w B t m r n L) {j:Nat} (hj:Bk t m j) {cs:Array Value} {ty:TypeId} {f:Nat×Nat} (hc:w.heap[j]?=some (.cells cs ty f)):ty=128:=by
 rcases hj with rfl |rfl
 ·rw [h.2.2.1] at hc
  injection hc with hc;injection hc with _ hc;exact hc.symm
 ·exact absurd hc (h.2.2.2.not _ _ _)
end
structure Kept (w:World) (B t m:Nat) (r n:Int) (L:Cs) (w':World):Prop where
 tb:Tb w' B t m r n L
 tn:Tn (Bk t m) w w'
theorem Kept.below {w w':World} {B t m:Nat} {r n n0:Int} {L L0:Cs} (h:Kept w B t m r n L w') (h0:Tb w B t m r n0 L0) (hB:B≤w.heap.size):Below B w w':=h.tn.below (fun k hk=>(h0.lt k hk).1) hB

theorem zeroCur (w:World):(zeroValue 308).run prog w= .ok (curV c0) w:=by kernel_rfl
def MadeC (w:World) (r:Int) (e:Ending) (w':World):Prop:=∃t m,e= .returned (.pointer (some ⟨t,0,none⟩))∧Tb w' w.heap.size t m r 0 []∧Below w.heap.size w w'
theorem new_any (room r:Int) (w:World) (hr:r=min (max room 1) 1024):
  Calls prog 90 #[.int .i64 room] w (MadeC w r):=by
 obtain⟨m1,hm1⟩:∃m1,max room 1=m1:=⟨_,rfl⟩
 rw [hm1] at hr;have hm2:min m1 1024=r:=hr.symm;have hmm:=@run_makeMap prog;obtain⟨W1,hW1⟩:=words.nm (w.alloc (.map #[] 0));obtain⟨W2,hW2⟩:=words.nm (W1.alloc (.cells #[.int .i64 r,.int .i64 0,.map (some w.heap.size)] 128));have hb1:=words.b1 hW1;have hz:W1.heap.size=w.heap.size+1:=by rw [hW1];simp
 have hb2:Below W1.heap.size W1 W2:=words.b1 hW2;have hm:MapL W1 prog 3 w.heap.size (cR []):=by rw [hW1];exact MapL.made w prog 3
 have HE:Hid (MadeC w r (.returned (.pointer (some ⟨w.heap.size+1,0,none⟩))) W2):=hid ⟨_,w.heap.size,rfl,⟨Nat.le_succ _,Nat.le_refl _,by rw [←hz,hW2];exact heap_alloc_new W1 _,hm.of_block (hb2.block _ hm.lt)⟩,hb1.trans (hb2.mono hb1.size)⟩;clear hr hb1 hz hb2 hm;go_enter func90,ntmps90
 go_wp2
 rw [←hW1,←hW2];clear hW1 hW2;go_ret
 exact HE.out
section
variable (B t m:Nat) (r n:Int) (L:Cs) (x:Int) (w:World)
theorem clen_any (h:Tb w B t m r n L):
  Calls prog 24 #[.pointer (some ⟨t,0,none⟩)] w fun e w'=>e= .returned (.int .i64 (L.length:Int))∧w=w':=by
 have d2:=Jaa h.2.2.1 2;have hl:=fun ty=>h.2.2.2.len underlying126 ty;rw [Jnb] at hl;clear h;go_enter func24,ntmps24
 go_wp2
 go_ret
 exact⟨rfl,rfl⟩
def gotC (L:Cs) (x:Int):Cu:=(valC L x).getD c0
def gotE (L:Cs) (x:Int):Int:=if (valC L x).isSome then 0 else 9
def GotC (w:World) (c:Cu) (k:Int) (e:Ending) (w':World):Prop:=e= .returned (.tuple #[.agg #[.int .i64 c.ep,.string c.dr,.int .i64 c.at_],.int .i64 k])∧Below w.heap.size w w'
theorem Jkv {w w1 w9:World} {q:Nat} {c:Cu} {cs:Array Value} (hb:Below w.heap.size w w1) (hq:w.heap.size≤q) (hz:w1.heap[q]?=some (.cells cs 308 (0,0))) (hc:cs.size=3)
  (h9:w9=((w1.setCell ⟨q,0,none⟩ (.int .i64 c.ep)).setCell ⟨q,1,none⟩ (.string c.dr)).setCell ⟨q,2,none⟩ (.int .i64 c.at_)):w9.heap[q]?=some (.cells #[.int .i64 c.ep,.string c.dr,.int .i64 c.at_] 308 (0,0))∧Below w.heap.size w w9:=by
 have e:w9=setsV w1 q 0 [.int .i64 c.ep,.string c.dr,.int .i64 c.at_]:=h9;constructor
 ·rw [e]
  exact Jbc hz hc.symm
 ·rw [e]
  exact ((Tn.of_below hb (fun k=>k=q)).trans (Jbp (S:=fun k=>k=q) _ (.inr rfl) _ _ _ (Tn.refl _ _))).below (fun k hk=>by omega) (Nat.le_refl _)
theorem Jfx (h:Tb w B t m r n L) (hx:Fits x):
  Calls prog 217 #[.pointer (some ⟨t,0,none⟩),.int .i64 x] w (GotC w (gotC L x) (gotE L x)):=by
 obtain⟨W1,hW1⟩:=words.nm (w.alloc (.cells #[.int .i64 0,.string ⟨#[]⟩,.int .i64 0] 308));have hb1:=words.b1 hW1;have hk1:W1.heap[w.heap.size]?=some (.cells #[.int .i64 0,.string ⟨#[]⟩,.int .i64 0] 308 (0,0)):=by rw [hW1];exact heap_alloc_new w _
 have hT1:=h.later hb1;have d2:=Jaa hT1.2.2.1 2;obtain⟨c,hc⟩:=words.nm (gotC L x);obtain⟨k,hk⟩:=words.nm (gotE L x);rw [←hc,←hk];obtain⟨ep,dr,at_⟩:=c;obtain⟨W2,hW2⟩:=words.nm (W1.alloc (.cells #[.int .i64 ep,.string dr,.int .i64 at_] 308));have hb2:Below W1.heap.size W1 W2:=words.b1 hW2;have hk2:W2.heap[W1.heap.size]?=some (.cells #[.int .i64 ep,.string dr,.int .i64 at_] 308 (0,0)):=by rw [hW2];exact heap_alloc_new W1 _
 have hk12:=(hb2.block _ (lt_of_some hk1)).trans hk1;have s0:=Jaa hk2 0;have s1:=Jaa hk2 1;have s2:=Jaa hk2 2;have z0:=Jaa hk12 0;have z1:=Jaa hk12 1;have z2:=Jaa hk12 2;have fz0:=Jab hk12 0;have fz1:=Jab hk12 1;have fz2:=Jab hk12 2;have hlk:=hT1.2.2.2.look_ok underlying3 underlying126 (zeroCur W1) hx;rw [Jlg] at hlk;obtain⟨W9,hW9⟩:=words.nm (((W2.setCell ⟨w.heap.size,0,none⟩ (.int .i64 ep)).setCell ⟨w.heap.size,1,none⟩ (.string dr)).setCell ⟨w.heap.size,2,none⟩ (.int .i64 at_));obtain⟨k1,k2⟩:=Jkv (c:=⟨ep,dr,at_⟩) (hb1.trans (hb2.mono hb1.size)) (Nat.le_refl _) hk12 rfl hW9;have y0:=Jaa k1 0;have y1:=Jaa k1 1;have y2:=Jaa k1 2;have HE:Hid (GotC w ⟨ep,dr,at_⟩ k (.returned (.tuple #[.agg #[.int .i64 ep,.string dr,.int .i64 at_],.int .i64 k])) W9):=hid ⟨rfl,k2⟩;have HW1:=hid hW1;have HW2:=hid hW2;obtain⟨q,hq⟩:=words.nm (W1.heap.size);rw [←hq] at s0 s1 s2;have HQ:Hid (W1.heap.size=q):=hid hq.symm;have HQ2:Hid (w.heap.size+1=q):=hid (by rw [hq,hW1];simp);rcases hv:valC L x with _ |c
 ·have ek:k=9:=by rw [hk];unfold gotE;rw [hv];rfl
  have ec:(⟨ep,dr,at_⟩:Cu)=c0:=by rw [hc];unfold gotC;rw [hv];rfl
  rw [hv] at hlk;injection ec with e1 e2 e3;subst e1 e2 e3 ek;replace hlk:(Instr.lookup 126 (.map (some m)) (.int .i64 x) true).run prog W1= .ok (.tuple #[.agg #[.int .i64 0,.string ⟨#[]⟩,.int .i64 0],.bool false]) W1:=hlk;clear h hb1 hk1 hT1 hb2 hk2 hk12 hx hc hk hv k1 k2 hW1 hW2 hq;go_enter func217,ntmps217
  go_upto_region 1 with fail
  rw [←HW1.out];go_upto_region 2 with fail
  rw [←HW2.out];clear d2 hlk;go_wp2
  rw [←hW9];exact bodyPost_ret (v:= .tuple #[.agg #[.int .i64 0,.string ⟨#[]⟩,.int .i64 0],.int .i64 9]) (by simp [results,results217,go_sem,y0,y1,y2]) rfl HE.out
 ·have ek:k=0:=by rw [hk];unfold gotE;rw [hv];rfl
  have ec:(⟨ep,dr,at_⟩:Cu)=c:=by rw [hc];unfold gotC;rw [hv];rfl
  rw [hv] at hlk;subst ec ek;replace hlk:(Instr.lookup 126 (.map (some m)) (.int .i64 x) true).run prog W1= .ok (.tuple #[.agg #[.int .i64 ep,.string dr,.int .i64 at_],.bool true]) W1:=hlk;clear h hb1 hk1 hT1 hb2 hk2 hk12 hx hc hk hv k1 k2 hW1 hW2 hq;go_enter func217,ntmps217
  go_upto_region 1 with fail
  rw [←HW1.out];go_upto_region 2 with fail
  rw [←HW2.out];try rw [HQ.out]
  try rw [HQ2.out]
  clear d2 hlk;go_wp2
  rw [←hW9];exact bodyPost_ret (v:= .tuple #[.agg #[.int .i64 ep,.string dr,.int .i64 at_],.int .i64 0]) (by simp [results,results217,go_sem,y0,y1,y2]) rfl HE.out
end
end Go.Proofs.YtekekhgjobahaaaGreatDoor.cur

namespace Go.Proofs.YtekekhgjobahaaaGreatDoor.cur
open Go.RowKit words lru mpi

section
variable {w w':World} {B t m:Nat} {r n n':Int} {L L':Cs}
theorem Tb.stored (h:Tb w B t m r n L) (hm:MapL w' prog 3 m (cR L')) (ht:Tn (fun j=>j=m) w w'):Tb w' B t m r n L':=
 ⟨h.1,h.2.1,(ht.block t (lt_of_some h.2.2.1) h.ne).trans h.2.2.1,hm⟩
theorem Tb.opened (h:Tb w B t m r n L) (hw:w'=w.setCell ⟨t,1,none⟩ (.int .i64 n')):Tb w' B t m r n' L∧Tn (fun j=>j=t) w w':=by
 have ht:Tn (fun j=>j=t) w w':=by rw [hw];exact (Tn.refl (fun j=>j=t) w).setCell (p:=⟨t,1,none⟩) (.inr rfl) _
 refine⟨⟨h.1,h.2.1,?_,h.2.2.2.of_block (ht.block m h.2.2.2.lt (fun e=>h.ne e.symm))⟩,ht⟩;rw [hw];exact heap_setCell_same w t 1 _ _ _ h.2.2.1
end
section
variable (B t m:Nat) (r n:Int) (L:Cs) (x:Int) (w:World)
def GoneC (w:World) (k:Int) (e:Ending) (w':World):Prop:=e= .returned (.int .i64 k)∧Below w.heap.size w w'
theorem close_no (h:Tb w B t m r n L) (hx:Fits x) (hno:valC L x=none):
  Calls prog 190 #[.pointer (some ⟨t,0,none⟩),.int .i64 x] w (GoneC w 9):=by
 have hg:=Jfx B t m r n L x w h hx;have ek:gotE L x=9:=by unfold gotE;rw [hno];rfl
 rw [ek] at hg;have HG:=hid hg;clear h hg hno ek hx;go_enter func190,ntmps190
 go_wp2_with fail
 refine HG.out.mono ?_;rintro e w1 ⟨rfl,hb1⟩;have HB:=hid hb1;clear hb1;go_wp2
 go_ret
 exact⟨rfl,HB.out.trans ((Below.refl _ _).alloc HB.out.size _)⟩
end
end Go.Proofs.YtekekhgjobahaaaGreatDoor.cur
