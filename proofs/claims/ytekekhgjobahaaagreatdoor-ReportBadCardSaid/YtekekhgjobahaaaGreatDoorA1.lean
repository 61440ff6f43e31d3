import Derived.Test.YtekekhgjobahaaaGreatDoorA0
import Derived.Laws.CopyOwn
import Derived.Lib.MinMax
import Derived.StillTailTactics
import Derived.Deep.Cut
import Derived.WalkSpells
import Derived.WalkLawsBesides
import Derived.BigQuiet
import Derived.Test.YtekekhgjobahaaaGreatDoorChecked
set_option maxHeartbeats 800000
set_option maxRecDepth 100000
open Go.Lib (hid)
open Go.Proofs.Tryz
namespace Go.Proofs.YtekekhgjobahaaaGreatDoor.lru

section
variable {κ ν:Type}
structure Ok (L:List (κ×ν)) (r:Nat):Prop where
 nd:(L.map (·.1)).Nodup
 len:L.length≤r
 pos:1≤r
theorem Jmw {L:List (κ×ν)} {i:Nat} {p:κ×ν} (h:L[i]?=some p):L=L.take i++p::L.drop (i+1):=by
 obtain⟨hi,hp⟩:=List.getElem?_eq_some_iff.1 h;rw [←hp,List.getElem_cons_drop hi,List.take_append_drop]
theorem Jmj {L A B:List (κ×ν)} {p:κ×ν} (h:L=A++p::B) (nd:(L.map (·.1)).Nodup):(∀q∈A,q.1≠p.1)∧(∀q∈B,q.1≠p.1):=by
 subst h;rw [List.map_append,List.map_cons,List.nodup_append] at nd;obtain⟨_,h2,h3⟩:=nd;rw [List.nodup_cons] at h2;exact⟨fun q hq=>h3 _ (List.mem_map_of_mem hq) _ (List.mem_cons_self ..),fun q hq he=>h2.1 (he▸List.mem_map_of_mem hq)⟩
theorem Ok.new {r:Nat} (h:1≤r):Ok ([]:List (κ×ν)) r:=⟨List.nodup_nil,Nat.zero_le _,h⟩
end
section
variable {κ ν:Type} [DecidableEq κ]
def rest (L:List (κ×ν)) (k:κ):List (κ×ν):=L.filter fun p=> !decide (p.1=k)
def val (L:List (κ×ν)) (k:κ):Option ν:=(L.find? fun p=>decide (p.1=k)).map (·.2)
def getL (L:List (κ×ν)) (k:κ):List (κ×ν):=match val L k with
 |some v=>(k,v)::rest L k
 |none=>L
def goneB (L:List (κ×ν)) (r:Nat) (k:κ):Bool:=decide (r<(rest L k).length+1)
def goneK (L:List (κ×ν)) (r:Nat) (k z:κ):κ:=if goneB L r k=true then (((rest L k).getLast?).map (·.1)).getD z else z
def putL (L:List (κ×ν)) (r:Nat) (k:κ) (v:ν):List (κ×ν):=if goneB L r k=true then ((k,v)::rest L k).dropLast else (k,v)::rest L k
theorem Jb6 {L:List (κ×ν)} {k:κ} (h:∀p∈L,p.1≠k):rest L k=L:=
 List.filter_eq_self.2 fun p hp=>by simp [h p hp]
theorem Juq {L:List (κ×ν)} {k:κ} {p:κ×ν}:p∈rest L k↔p∈L∧p.1≠k:=by simp [rest]
theorem Jw5 (L:List (κ×ν)) (k:κ):(rest L k).length≤L.length:=List.length_filter_le _ _
theorem Jk9 {L:List (κ×ν)} {i:Nat} {k:κ} {x:ν} (h:L[i]?=some (k,x)) (nd:(L.map (·.1)).Nodup):rest L k=L.take i++L.drop (i+1):=by
 have hs:=Jmw h;obtain⟨h1,h2⟩:=Jmj hs nd;have e:rest L k=rest (L.take i++(k,x)::L.drop (i+1)) k:=by rw [←hs]
 rw [e];unfold rest;rw [List.filter_append,List.filter_cons_of_neg (by simp)];have r1:=Jb6 h1;have r2:=Jb6 h2;unfold rest at r1 r2;rw [r1,r2]
theorem Jgw {L:List (κ×ν)} {i:Nat} {k:κ} {x:ν} (h:L[i]?=some (k,x)) (nd:(L.map (·.1)).Nodup):(rest L k).length+1=L.length:=by
 rw [Jk9 h nd];have hi:=(List.getElem?_eq_some_iff.1 h).1;simp;omega
theorem Js9 {L:List (κ×ν)} {k:κ} (h:∀p∈L,p.1≠k):val L k=none:=by
 unfold val;rw [List.find?_eq_none.2 (fun p hp=>by simp [h p hp])];rfl
theorem Jyp {L:List (κ×ν)} {i:Nat} {k:κ} {x:ν} (h:L[i]?=some (k,x)) (nd:(L.map (·.1)).Nodup):val L k=some x:=by
 have hs:=Jmw h;obtain⟨h1,_⟩:=Jmj hs nd;have e:val L k=val (L.take i++(k,x)::L.drop (i+1)) k:=by rw [←hs]
 rw [e];unfold val;rw [List.find?_append,List.find?_eq_none.2 (fun p hp=>by simp [h1 p hp])];simp
theorem Jxc {L:List (κ×ν)} {k:κ} {x:ν} (h:val L k=some x):(k,x)∈L:=by
 unfold val at h;rcases he:L.find? (fun p=>decide (p.1=k)) with _ |q
 ·rw [he] at h;cases h
 ·rw [he] at h
  obtain⟨a,b⟩:=q;have hk:a=k:=by simpa using List.find?_some he
  have hx:b=x:=by simpa using h
  have:=List.mem_of_find?_eq_some he;rwa [hk,hx] at this
theorem there (L:List (κ×ν)) (k:κ):(∃(i:Nat) (x:ν),L[i]?=some (k,x))∨∀p∈L,p.1≠k:=by
 by_cases h:∃p,p∈L∧p.1=k
 ·obtain⟨⟨a,x⟩,hp,rfl⟩:=h
  obtain⟨i,hi⟩:=List.mem_iff_getElem?.1 hp;exact .inl ⟨i,x,hi⟩
 ·exact .inr fun p hp he=>h ⟨p,hp,he⟩
theorem Jwh {L:List (κ×ν)} (k:κ) (nd:(L.map (·.1)).Nodup):((rest L k).map (·.1)).Nodup:=
 List.Sublist.nodup (List.Sublist.map _ List.filter_sublist) nd
theorem Js2 {L:List (κ×ν)} (k:κ) (v:ν) (nd:(L.map (·.1)).Nodup):(((k,v)::rest L k).map (·.1)).Nodup:=by
 rw [List.map_cons,List.nodup_cons];refine⟨fun h=>?_,Jwh k nd⟩;obtain⟨p,hp,he⟩:=List.mem_map.1 h;exact (Juq.1 hp).2 he
theorem Ok.get {L:List (κ×ν)} {r:Nat} (h:Ok L r) (k:κ):Ok (getL L k) r:=by
 unfold getL;split
 ·rename_i v hv
  obtain⟨i,hi⟩:=List.mem_iff_getElem?.1 (Jxc hv);refine⟨Js2 k v h.nd,?_,h.pos⟩;have:=Jgw hi h.nd;have:=h.len;rw [List.length_cons];omega
 ·exact h
theorem Ok.put {L:List (κ×ν)} {r:Nat} (h:Ok L r) (k:κ) (v:ν):Ok (putL L r k v) r:=by
 unfold putL;split
 ·refine⟨List.Sublist.nodup (List.Sublist.map _ (List.dropLast_sublist _)) (Js2 k v h.nd),?_,h.pos⟩
  have:=Jw5 L k;have:=h.len;rw [List.length_dropLast,List.length_cons];omega
 ·rename_i hg
  refine⟨Js2 k v h.nd,?_,h.pos⟩;have:¬r<(rest L k).length+1:=by simpa [goneB] using hg
  rw [List.length_cons];omega

theorem Jvo {L:List (κ×ν)} {r i:Nat} {k:κ} {x:ν} (h:Ok L r) (hi:L[i]?=some (k,x)) (v:ν) (z:κ):
  putL L r k v=(k,v)::(L.take i++L.drop (i+1))∧goneB L r k=false∧goneK L r k z=z:=by
 have hg:goneB L r k=false:=by
  have:=Jgw hi h.nd;have:=h.len;simp [goneB];omega
 refine⟨?_,hg,?_⟩
 ·unfold putL;rw [hg,if_neg (by simp),Jk9 hi h.nd]
 ·unfold goneK;rw [hg,if_neg (by simp)]
theorem Jdr {L:List (κ×ν)} {r:Nat} {k:κ} (hn:∀p∈L,p.1≠k) (hl:L.length<r) (v:ν) (z:κ):
  putL L r k v=(k,v)::L∧goneB L r k=false∧goneK L r k z=z:=by
 have hr:=Jb6 hn;have hg:goneB L r k=false:=by simp [goneB,hr];omega
 refine⟨?_,hg,?_⟩
 ·unfold putL;rw [hg,if_neg (by simp),hr]
 ·unfold goneK;rw [hg,if_neg (by simp)]
theorem Jmp {L:List (κ×ν)} {n:Nat} {k:κ} {p:κ×ν} (hn:∀p∈L,p.1≠k) (hl:L.length=n+1) (hp:L[n]?=some p) (v:ν) (z:κ):
  putL L (n+1) k v=(k,v)::(L.take n++L.drop (n+1))∧goneB L (n+1) k=true∧goneK L (n+1) k z=p.1:=by
 have hr:=Jb6 hn;have hg:goneB L (n+1) k=true:=by simp [goneB,hr];omega
 refine⟨?_,hg,?_⟩
 ·unfold putL
  rw [if_pos hg,hr,List.drop_of_length_le (by omega),List.append_nil];rcases L with _ |⟨a,L⟩
  ·simp at hl
  ·rw [List.dropLast_cons_of_ne_nil (by simp),List.dropLast_eq_take,hl]
   rfl
 ·unfold goneK
  rw [if_pos hg,hr,List.getLast?_eq_getElem?,hl,Nat.add_sub_cancel,hp];rfl
theorem Jvq {L:List (κ×ν)} {r i:Nat} {k:κ} {x:ν} (h:Ok L r) (hi:L[i]?=some (k,x)):val L k=some x∧getL L k=(k,x)::(L.take i++L.drop (i+1)):=by
 have hv:=Jyp hi h.nd;refine⟨hv,?_⟩;unfold getL;rw [hv,Jk9 hi h.nd]
theorem Jnr {L:List (κ×ν)} {k:κ} (hn:∀p∈L,p.1≠k):val L k=none∧getL L k=L:=by
 have hv:=Js9 hn;refine⟨hv,?_⟩;unfold getL;rw [hv]
end
end Go.Proofs.YtekekhgjobahaaaGreatDoor.lru

namespace Go.Proofs.YtekekhgjobahaaaGreatDoor.lru
open Go.RowKit words

structure Tn (S:Nat→Prop) (w w':World):Prop where
 os:w'.os=w.os
 tape:w'.tape=w.tape
 output:w'.output=w.output
 size:w.heap.size≤w'.heap.size
 block:∀k,k<w.heap.size→¬S k→w'.heap[k]?=w.heap[k]?
section
variable {S:Nat→Prop} {a w w':World}
theorem Tn.refl (S:Nat→Prop) (w:World):Tn S w w:=⟨rfl,rfl,rfl,Nat.le_refl _,fun _ _ _=>rfl⟩
theorem Tn.drew (h:Tn S a w):Tn S a w.drew:=⟨h.os,h.tape,h.output,h.size,h.block⟩
theorem Tn.drewN (h:Tn S a w) (n:Nat):Tn S a (w.drewN n):=⟨h.os,h.tape,h.output,h.size,h.block⟩
theorem Tn.trans (h:Tn S a w) (h':Tn S w w'):Tn S a w':=
 ⟨h'.os.trans h.os,h'.tape.trans h.tape,h'.output.trans h.output,Nat.le_trans h.size h'.size,fun k hk hS=>(h'.block k (Nat.lt_of_lt_of_le hk h.size) hS).trans (h.block k hk hS)⟩
theorem Tn.then {S':Nat→Prop} (h:Tn S a w) (h':Tn S' w w') (hS:∀k,k<a.heap.size→S' k→S k):Tn S a w':=
 ⟨h'.os.trans h.os,h'.tape.trans h.tape,h'.output.trans h.output,Nat.le_trans h.size h'.size,fun k hk hn=>(h'.block k (Nat.lt_of_lt_of_le hk h.size) (fun hc=>hn (hS k hk hc))).trans (h.block k hk hn)⟩
theorem Tn.mono {S':Nat→Prop} (h:Tn S w w') (hS:∀k,S k→S' k):Tn S' w w':=
 ⟨h.os,h.tape,h.output,h.size,fun k hk hn=>h.block k hk fun hc=>hn (hS k hc)⟩
theorem Tn.alloc (h:Tn S a w) (o:Obj):Tn S a (w.alloc o):=
 ⟨h.os,h.tape,h.output,Nat.le_trans h.size (by simp),fun k hk hn=>(Below.heap_alloc w o k (Nat.lt_of_lt_of_le hk h.size)).trans (h.block k hk hn)⟩
theorem Tn.setCell (h:Tn S a w) {p:Addr} (hp:a.heap.size≤p.block∨S p.block) (u:Value):Tn S a (w.setCell p u):=
 ⟨h.os,h.tape,h.output,by simpa [World.setCell] using h.size,fun k hk hn=>(Below.heap_setCell w p u k (fun e=>by subst e;rcases hp with hp |hp;omega;exact hn hp)).trans (h.block k hk hn)⟩
theorem Tn.setRow (h:Tn S a w) {g:Nat} (hp:a.heap.size≤g∨S g) (cs:Array Value):Tn S a (w.setRow g cs):=
 ⟨h.os,h.tape,h.output,by simpa [World.setRow] using h.size,fun k hk hn=>(setRow_other w g k cs (fun e=>by subst e;rcases hp with hp |hp;omega;exact hn hp)).trans (h.block k hk hn)⟩
theorem Tn.grown {row:Option Nat} (h:Tn S a w) (hg:w.grownBy w' row) (hr:∀k,row=some k→a.heap.size≤k∨S k):Tn S a w':=
 ⟨hg.os.trans h.os,hg.tape.trans h.tape,hg.output.trans h.output,Nat.le_trans h.size hg.size,fun k hk hn=>
   (hg.block k (Nat.lt_of_lt_of_le hk h.size) (fun e=>by rcases hr k e.symm with hp |hp;omega;exact hn hp)).trans (h.block k hk hn)⟩
theorem Tn.of_below (h:Below a.heap.size a w) (S:Nat→Prop):Tn S a w:=⟨h.os,h.tape,h.output,h.size,fun k hk _=>h.block k hk⟩
theorem Tn.below {B:Nat} (h:Tn S a w) (hS:∀k,S k→B≤k) (hB:B≤a.heap.size):Below B a w:=
 ⟨h.os,h.tape,h.output,h.size,fun k hk=>h.block k (Nat.lt_of_lt_of_le hk hB) fun hc=>by have:=hS k hc;omega⟩
theorem Tn.kept {T:TypeId→Prop} {B:Nat} (h:Tn S a w) (hS:∀k,S k→B≤k∧∃cs t f,a.heap[k]?=some (.cells cs t f)∧T t):Kept T B a w:=
 ⟨h.os,h.tape,h.output,h.size,fun k hk hc=>h.block k hk fun hs=>by
   obtain⟨h1,cs,t,f,h2,h3⟩:=hS k hs;rcases hc with hc |hc
   ·omega
   ·exact hc cs t f h2 h3⟩
theorem Tn.own {base:Nat} {e:TypeId} {size n:Nat} {v:Value} {xs:List Value} (h:Tn S a w) (hown:a.ownsRow base e size v n xs) (hn:∀k,v.ownBlock=some k→¬S k):w.ownsRow base e size v n xs:=by
 refine⟨hown.1,?_⟩;rcases hown.2 with h0 |⟨g,cap,cur,rfl,hb,hh,hr⟩
 ·exact .inl h0
 ·exact .inr ⟨g,cap,cur,rfl,hb,(h.block g (lt_of_some hh) (hn g rfl)).trans hh,hr⟩
end

section
variable {P:Program} (w:World)
theorem Jiu (dT sT ty elem:TypeId) (n m:Nat) (dp sp:Option Addr) (dLen dCap sLen sCap:Nat) (hu:P.underlying dT=some (.slice elem)) (hs:(P.info? elem).map (·.size)=some m) (hn:n=Nat.min sLen dLen)
  (g o:Nat) (cur:Array Value) (t:TypeId) (hg:w.heap[g]?=some (.cells cur t (0,0))) (cs:List Value) (hl:cs.length=n*m)
  (hpos:0<n→dp=some ⟨g,o,none⟩∧∃a,sp=some a∧∀j v,cs[j]?=some v→w.cell? (a.add j)=some v) (hfit:o+cs.length≤cur.size) (h1:∀v∈cs,v.oneCell'=true):
  (Builtin.copy_ #[dT,sT] ty #[.slice dp dLen dCap,.slice sp sLen sCap]).run P w= .ok (goInt n) (w.setRow g (cur.toList.take o++cs++cur.toList.drop (o+cs.length)).toArray):=by
 rcases hq:P.info? elem with _ |i
 ·simp [hq] at hs
 ·have hi:i.size=m:=by simpa [hq] using hs
  rcases Nat.eq_zero_or_pos n with h0 |h0
  ·have hcs:cs=[]:=List.eq_nil_of_length_eq_zero (by rw [hl,h0,Nat.zero_mul])
   subst hcs;have hw:w.setRow g (cur.toList.take o++[]++cur.toList.drop (o+([]:List Value).length)).toArray=w:=by
    rw [List.append_nil,List.length_nil,Nat.add_zero,List.take_append_drop,Array.toArray_toList];exact setRow_self w g cur t (0,0) hg
   rw [hw,h0];have hmin:Nat.min sLen dLen=0:=by omega
   have hld:∀a:Addr,(loadCells a 0).run P w= .ok #[] w:=fun a=>run_loadCells_list (P:=P) w a [] (fun j v hj=>by simp at hj);rcases dp with _ |d<;>rcases sp with _ |s<;>
    simp [Builtin.copy_,run_underlying hu,Builtin.lenOf,Builtin.firstCells,sizeOf,typeInfo,hq,hmin,hld,storeCells]
  ·obtain⟨rfl,a,rfl,hsrc⟩:=hpos h0
   have hld:=run_loadCells_list (P:=P) w a cs hsrc;have hst:=run_storeCells_at P g o t cs 0 cur w hg (by simpa using hfit) h1;simp [Builtin.copy_,run_underlying hu,Builtin.lenOf,Builtin.firstCells,sizeOf,typeInfo,hq,hi,←hn,←hl,hld,hst]
theorem Jdf {ops:Array Oper} {o:Oper} {a:Act} {K:Act→World→Prop} {Q:Exit→Act→World→Prop} {E:Prop} (hgd:o.guard=none) (d s:Operand) (dT sT:TypeId)
  (ho:o.op= .call {callee:= .builtin .copy,args:=#[d,s],argTypes:=#[dT,sT]}) (elem:TypeId) (n m:Nat) (dp sp:Option Addr) (dLen dCap sLen sCap:Nat) (hu:P.underlying dT=some (.slice elem)) (hsz:(P.info? elem).map (·.size)=some m)
  (hn:n=Nat.min sLen dLen) (hd:a.eval d= .slice dp dLen dCap) (hs:a.eval s= .slice sp sLen sCap)
  (g off:Nat) (cur:Array Value) (t:TypeId) (hg:w.heap[g]?=some (.cells cur t (0,0))) (cs:List Value) (hl:cs.length=n*m)
  (hpos:0<n→dp=some ⟨g,off,none⟩∧∃a,sp=some a∧∀j v,cs[j]?=some v→w.cell? (a.add j)=some v) (hfit:off+cs.length≤cur.size) (h1:∀v∈cs,v.oneCell'=true)
  (h:K (a.put o.dst (goInt n)) (w.setRow g (cur.toList.take off++cs++cur.toList.drop (off+cs.length)).toArray)):
  if Region.wanted o (yielded ops a.tmps)=true then Oper.wp P o a w K Q else E:=by
 have hw:Region.wanted o (yielded ops a.tmps)=true:=by simp [Region.wanted,hgd]
 rw [if_pos hw];have hrun:=Jiu (P:=P) w dT sT o.type elem n m dp sp dLen dCap sLen sCap hu hsz hn g off cur t hg cs hl hpos hfit h1;unfold Oper.wp;simp only [execOp,ho,resolve,invoke,builtin,Sem.run_bind,Sem.run_pure,Result.andThen_ok,List.map_toArray,List.map_cons,List.map_nil,hd,hs,hrun];exact h
end
theorem own_facts {w:World} {B:Nat} {E:TypeId} {size n:Nat} {v:Value} {xs:List Value} (h:w.ownsRow B E size v n xs):∃A c,v= .slice A n c∧n≤c∧c≤maxLen∧(A=none→n=0∧c=0):=by
 rcases h.2 with⟨rfl,rfl⟩ |⟨g,cap,cur,rfl,_,_,hle,hm,_⟩
 ·exact⟨none,0,rfl,Nat.le_refl _,Nat.zero_le _,fun _=>⟨rfl,rfl⟩⟩
 ·exact⟨_,cap,rfl,hle,hm,fun h=>by cases h⟩
theorem own_at {w:World} {B n size:Nat} {E:TypeId} {v:Value} {xs:List Value} (h:w.ownsRow B E size v n xs) {j:Nat} {u:Value} (hj:xs[j]?=some u):∃g c,v= .slice (some ⟨g,0,none⟩) n c∧B≤g∧g<w.heap.size∧w.cell? ⟨g,j,none⟩=some u:=by
 rcases h.2 with⟨rfl,rfl⟩ |⟨g,cap,cur,rfl,hb,hh,h1,h2,h3,h4⟩
 ·have:=h.1
  rw [Nat.zero_mul] at this;rw [List.eq_nil_of_length_eq_zero this] at hj;simp at hj
 ·refine⟨g,cap,rfl,hb,lt_of_some hh,?_⟩
  rw [Jaa hh,←Array.getElem?_toList];rw [←h4,List.getElem?_take] at hj;split at hj
  ·exact hj
  ·cases hj
theorem own_mono {w:World} {B B' size n:Nat} {E:TypeId} {v:Value} {xs:List Value} (h:w.ownsRow B E size v n xs) (hB:B'≤B):w.ownsRow B' E size v n xs:=by
 refine⟨h.1,?_⟩;rcases h.2 with h0 |⟨g,cap,cur,h1,h2,h3⟩
 ·exact .inl h0
 ·exact .inr ⟨g,cap,cur,h1,Nat.le_trans hB h2,h3⟩
theorem keep_grown {S:Nat} {a w w':World} {v:Value} {base n sz:Nat} {e:TypeId} {xs:List Value} (h:Below S a w) (ho:w.ownsRow base e sz v n xs) (hg:w.grownBy w' v.ownBlock) (hB:S≤base) (hs:S≤a.heap.size):Below S a w':=
 h.trans ⟨hg.os,hg.tape,hg.output,hg.size,fun k hk=>hg.block k (Nat.lt_of_lt_of_le (Nat.lt_of_lt_of_le hk hs) h.size) (fun e=>by have:=(ho.lt k e.symm).1;omega)⟩
theorem ownL {w w':World} {B size n:Nat} {E:TypeId} {v:Value} {xs:List Value} (h:w.ownsRow B E size v n xs) (hb:Below w.heap.size w w'):w'.ownsRow B E size v n xs:=by
 refine⟨h.1,?_⟩;rcases h.2 with h0 |⟨g,cap,cur,h1,h2,h3,h4⟩
 ·exact .inl h0
 ·exact .inr ⟨g,cap,cur,h1,h2,(hb.block g (lt_of_some h3)).trans h3,h4⟩
theorem add_place (b off j:Nat):(⟨b,off,none⟩:Addr).add j=⟨b,off+j,none⟩:=by unfold Addr.add;split<;>simp_all
theorem Jfp (w:World) (cs:Array Value) (E:TypeId) (i:Nat):(w.alloc (.cells cs E)).cell? ((⟨w.heap.size,0,none⟩:Addr).add i)=cs[i]?:=by
 rw [add_place,Nat.zero_add];exact Jaa (heap_alloc_new w _) i
theorem info_three {P:Program} {t:TypeId} {z:Option Value} {n b:Nat} (h:(P.info? t).map (fun i=>(i.zero,i.size,i.bytes))=some (z,n,b)):∃i,P.info? t=some i∧i.zero=z∧i.size=n∧i.bytes=b:=by
 rcases hi:P.info? t with _ |i
 ·rw [hi] at h;cases h
 ·rw [hi] at h
  injection h with h;injection h with h1 h2;injection h2 with h2 h3;exact⟨i,rfl,h1,h2,h3⟩
end Go.Proofs.YtekekhgjobahaaaGreatDoor.lru

namespace Go.Proofs.YtekekhgjobahaaaGreatDoor.mpi
open Go.RowKit Go.Maps words lru

abbrev Pr:=Int×Value
def heldR (v:Value):Option (DataW Value×List MemPlace):=some (.held v,[])
def orElse (o:Option Value) (z:DataW Value):DataW Value:=match o with
 |some v=> .held v
 |none=>z
def keyI (x:Int):Lit:= .int .i64 x
theorem Jwd {x y:Int} (h:x≠y):keyI x≠keyI y:=fun he=>h (by injection he)
def Fits (x:Int):Prop:=(Lit.int .i64 x).wf=true
def valP:List Pr→Int→Option Value
 |[],_=>none
 |(y,v)::L,x=>if x=y then some v else valP L x
def delL (L:List Pr) (x:Int):List Pr:=L.filter fun p=> !(p.1==x)
theorem Jbq {x:Int}:∀{L:List Pr},valP L x=none↔∀p∈L,p.1≠x
 |[]=>by simp [valP]
 |(y,v)::L=>by
  unfold valP;by_cases h:x=y
  ·subst h;simp
  ·rw [if_neg h,Jbq (L:=L)]
   constructor
   ·intro hL p hp
    rcases List.mem_cons.1 hp with rfl |hp
    ·exact fun e=>h e.symm
    ·exact hL p hp
   ·exact fun hL p hp=>hL p (List.mem_cons_of_mem _ hp)
theorem Jeh (x y:Int):∀(L:List Pr),valP (delL L x) y=if y=x then none else valP L y
 |[]=>by simp [delL,valP]
 |(z,u)::L=>by
  have ih:=Jeh x y L;unfold delL at ih ⊢;by_cases hz:z=x
  ·subst hz
   rw [List.filter_cons_of_neg (by simp),ih];by_cases e:y=z
   ·rw [if_pos e,if_pos e]
   ·simp only [valP,if_neg e]
  ·rw [List.filter_cons_of_pos (by simp [hz])]
   unfold valP;rw [ih];by_cases e:y=z
   ·subst e;rw [if_pos rfl,if_pos rfl,if_neg hz]
   ·rw [if_neg e,if_neg e]
theorem Jf7 {L:List Pr} (x:Int) (h:(L.map (·.1)).Nodup):((delL L x).map (·.1)).Nodup:=by
 unfold delL;exact (List.filter_sublist.map _).nodup h
theorem Jib {L:List Pr} {x:Int} (h:valP L x=none):delL L x=L:=by
 unfold delL;rw [List.filter_eq_self];intro p hp;simpa using Jbq.1 h p hp
theorem Jli {L:List Pr} {x:Int} (nd:(L.map (·.1)).Nodup):(delL L x).length+(if (valP L x).isSome then 1 else 0)=L.length:=by
 induction L with
 |nil=>simp [delL,valP]
 |cons p L ih=>
  obtain⟨z,u⟩:=p;rw [List.map_cons,List.nodup_cons] at nd;have ih:=ih nd.2;by_cases hz:x=z
  ·subst hz
   have hn:valP L x=none:=Jbq.2 fun p hp e=>nd.1 (by rw [←e];exact List.mem_map.2 ⟨_,hp,rfl⟩);have hd:=Jib hn;unfold delL at hd ⊢;rw [List.filter_cons_of_neg (by simp),hd];simp [valP]
  ·unfold delL at ih ⊢
   rw [List.filter_cons_of_pos (by simp;exact fun e=>hz e.symm)];unfold valP;rw [if_neg hz,List.length_cons,List.length_cons];omega
def MapL (w:World) (P:Program) (k:TypeId) (b:Nat) (L:List Pr):Prop:=
 ∃D,w.ownsMap P k heldR b L.length D∧(∀x z,D.atKey (keyI x) z=orElse (valP L x) z)∧Maps.size D=L.length∧(L.map (·.1)).Nodup
section
variable {P:Program} {k:TypeId} {w w':World} {b:Nat} {L:List Pr}
theorem Jgi {n:Nat} {D:DataW Value} (h:w.ownsMap P k heldR b n D) {m:Nat} (hm:Maps.size D≤m):w.ownsMap P k heldR b m D:=by
 obtain⟨es,clock,h1,h2,h3,rfl⟩:=h;exact⟨es,clock,h1,h2,by simpa [Maps.size,length_sorted] using hm,rfl⟩
theorem MapL.made (w:World) (P:Program) (k:TypeId):MapL (w.alloc (.map #[] 0)) P k w.heap.size []:=
 ⟨_,World.ownsMap_made w P k heldR,fun _ _=>rfl,rfl,List.nodup_nil⟩
theorem MapL.nd (h:MapL w P k b L):(L.map (·.1)).Nodup:=by
 obtain⟨D,_,_,_,h⟩:=h;exact h
theorem MapL.of_block (h:MapL w P k b L) (hb:w'.heap[b]?=w.heap[b]?):MapL w' P k b L:=by
 obtain⟨D,⟨es,clock,h1,h2⟩,hf⟩:=h;exact⟨D,⟨es,clock,hb.trans h1,h2⟩,hf⟩
theorem MapL.lt (h:MapL w P k b L):b<w.heap.size:=by
 obtain⟨D,ho,_⟩:=h;exact ho.lt
theorem MapL.not (h:MapL w P k b L) (cs:Array Value) (t:TypeId) (q:Nat×Nat):w.heap[b]?≠some (.cells cs t q):=fun hg=>by
 obtain⟨D,⟨es,clock,h1,_⟩,_⟩:=h;rw [h1] at hg;cases hg
theorem MapL.look_ok {t e:TypeId} (h:MapL w P k b L) (hk:P.underlying k=some (.int .i64)) (ht:P.underlying t=some (.map k e)) {z:Value} (hz:(zeroValue e).run P w= .ok z w) {x:Int} (hx:Fits x):
  (Instr.lookup t (.map (some b)) (.int .i64 x) true).run P w= .ok (.tuple #[(valP L x).getD z,.bool (valP L x).isSome]) w:=by
 obtain⟨D,ho,hf,_⟩:=h;obtain⟨v,ps,hr,hv⟩:=ho.look_ok (int_keyed hk) ht hz (zd:= .held z) (zp:=[]) rfl (key:= .int .i64 x) (kl:=keyI x) (keyOf_int_mk hk hx);have h1:DataW.held v=D.atKey (keyI x) (.held z):=congrArg Prod.fst (Option.some.inj hv);have hh:Maps.has D (keyI x)=(valP L x).isSome:=by
  have h1:=hf x;rcases hfs:valP L x with _ |u
  ·exact has_false_of_atKey fun z=>by rw [h1 z,hfs];rfl
  ·exact has_true_of_atKey (y:= .held u) fun z=>by rw [h1 z,hfs];rfl
 rw [hr,hh];rw [hf] at h1;rcases hL:valP L x with _ |u
 ·rw [hL] at h1;rw [DataW.held.inj h1];rfl
 ·rw [hL] at h1;rw [DataW.held.inj h1];rfl
theorem MapL.len {t e:TypeId} (h:MapL w P k b L) (ht:P.underlying t=some (.map k e)) (ty:TypeId):(Builtin.len_ #[t] ty #[.map (some b)]).run P w= .ok (.int .i64 (L.length:Int)) w:=by
 obtain⟨D,ho,_,hs,_⟩:=h;rw [ho.len ht ty,hs]
theorem MapL.has {D:DataW Value} (hf:∀x z,D.atKey (keyI x) z=orElse (valP L x) z) (x:Int):Maps.has D (keyI x)=(valP L x).isSome:=by
 have h1:=hf x;rcases hfs:valP L x with _ |u
 ·exact has_false_of_atKey fun z=>by rw [h1 z,hfs];rfl
 ·exact has_true_of_atKey (y:= .held u) fun z=>by rw [h1 z,hfs];rfl
theorem Jgz (h:w.mapTurned w' b):Tn (fun j=>j=b) w w':=by
 have hg:=h.grown;exact⟨hg.os,hg.tape,hg.output,hg.size,fun j hj hn=>hg.block j hj fun e=>hn (by injection e)⟩
theorem MapL.drop {t e:TypeId} (h:MapL w P k b L) (hk:P.underlying k=some (.int .i64)) (ht:P.underlying t=some (.map k e)) {x:Int} (hx:Fits x) (ty:TypeId):
  ∃w',(Builtin.delete_ #[t,k] ty #[.map (some b),.int .i64 x]).run P w= .ok (.tuple #[]) w'∧MapL w' P k b (delL L x)∧Tn (fun j=>j=b) w w':=by
 obtain⟨D,ho,hf,hs,nd⟩:=h;obtain⟨w',hr,h1,h2⟩:=ho.drop (int_keyed hk) ht (key:= .int .i64 x) (kl:=keyI x) (keyOf_int_mk hk hx) ty;have hz:Maps.size (D.del (keyI x))=(delL L x).length:=by
  have e1:=Maps.size_del (k:=keyI x) (ho.tidy (int_keyed hk));rw [MapL.has hf x,hs] at e1;have e2:=Jli (x:=x) nd;omega
 refine⟨w',hr,⟨_,Jgi h1 (Nat.le_of_eq hz),fun y z=>?_,hz,Jf7 x nd⟩,Jgz h2⟩;rw [Jeh];by_cases e:y=x
 ·subst e
  rw [atKey_del_same,if_pos rfl];rfl
 ·rw [atKey_del_other (Jwd e),if_neg e,hf]
end

def At (v:Value) (j:Nat):Prop:=v= .map (some j)
section
variable {P:Program} {k:TypeId} {w w':World} {B:Nat} {v:Value} {L:List Pr}
end
section
variable {P:Program} {w:World} {ops:Array Oper} {rest:List Oper} {o:Oper} {a:Act} {Q:Exit→Act→World→Prop}
end
end Go.Proofs.YtekekhgjobahaaaGreatDoor.mpi

namespace Go.Proofs.YtekekhgjobahaaaGreatDoor.lru
open Go.RowKit words

def setsV (w:World) (b:Nat):Nat→List Value→World
 |_,[]=>w
 |o,v::vs=>setsV (w.setCell ⟨b,o,none⟩ v) b (o+1) vs
theorem Jc3 (b:Nat) {S:Nat→Prop} {a:World} (hb:a.heap.size≤b∨S b):∀(vs:List Value) (o:Nat) (w:World),Tn S a w→Tn S a (setsV w b o vs)
 |[],_,_,h=>h
 |v::vs,o,_,h=>Jc3 b hb vs (o+1) _ (h.setCell (p:=⟨b,o,none⟩) hb v)
theorem Jkq {t:TypeId} (b:Nat):∀(vs:List Value) (o:Nat) (w:World) (cur:List Value),w.heap[b]?=some (.cells cur.toArray t (0,0))→o+vs.length≤cur.length→
  (setsV w b o vs).heap[b]?=some (.cells (cur.take o++vs++cur.drop (o+vs.length)).toArray t (0,0))
 |[],o,w,cur,h,_=>by simpa [setsV] using h
 |v::vs,o,w,cur,h,hl=>by
  have hs:(w.setCell ⟨b,o,none⟩ v).heap[b]?=some (.cells (cur.set o v).toArray t (0,0)):=by
   have:=heap_setCell_same w b o cur.toArray t v h;rw [this];simp
  have:=Jkq b vs (o+1) _ _ hs (by rw [List.length_set];simp at hl;omega);unfold setsV;rw [this];congr 3;have ho:o<cur.length:=by simp at hl;omega
  apply List.ext_getElem?;intro j;rw [List.drop_set_of_lt (by omega),List.take_set,List.length_cons];have e1:(cur.take (o+1)).set o v=cur.take o++[v]:=by
   rw [List.take_succ_eq_append_getElem ho,List.set_append_right _ _ (by simp [Nat.min_eq_left (Nat.le_of_lt ho)])];simp [Nat.min_eq_left (Nat.le_of_lt ho)]
  rw [e1,show o+1+vs.length=o+(vs.length+1) by omega];simp
theorem Jcv {t:TypeId} {b:Nat} {vs:List Value} {w:World} {cur:Array Value} (h:w.heap[b]?=some (.cells cur t (0,0))) (hl:vs.length=cur.size):(setsV w b 0 vs).heap[b]?=some (.cells vs.toArray t (0,0)):=by
 have:=Jkq (t:=t) b vs 0 w cur.toList (by simpa using h) (by simp;omega);rw [this];congr 2;simp [hl]
end Go.Proofs.YtekekhgjobahaaaGreatDoor.lru

namespace Go.Proofs.YtekekhgjobahaaaGreatDoor.cur
open Go.RowKit words lru mpi

structure Cu where
 ep:Int
 dr:ByteArray
 at_:Int
def c0:Cu:=⟨0,⟨#[]⟩,0⟩
def curV (c:Cu):Value:= .agg #[.int .i64 c.ep,.string c.dr,.int .i64 c.at_]
abbrev Cs:=List (Int×Cu)
def cR (L:Cs):List Pr:=L.map fun p=>(p.1,curV p.2)
def valC:Cs→Int→Option Cu
 |[],_=>none
 |(y,c)::L,x=>if x=y then some c else valC L x
theorem Jx6 (L:Cs):(cR L).length=L.length:=List.length_map ..
theorem Jvu (x:Int):∀L:Cs,valP (cR L) x=(valC L x).map curV
 |[]=>rfl
 |(y,c)::L=>by
  have ih:=Jvu x L;unfold cR at ih ⊢;rw [List.map_cons];unfold valP valC;rw [ih];split<;>rfl
theorem Jxs (L:Cs):(cR L).map (·.1)=L.map (·.1):=by unfold cR;rw [List.map_map];rfl
def Tb (w:World) (B t m:Nat) (r n:Int) (L:Cs):Prop:=
 B≤t∧B≤m∧w.heap[t]?=some (.cells #[.int .i64 r,.int .i64 n,.map (some m)] 128 (0,0))∧MapL w prog 3 m (cR L)
def Bk (t m:Nat) (j:Nat):Prop:=j=t∨j=m
section
variable {S:Nat→Prop} {w w':World} {B t m:Nat} {r n:Int} {L:Cs}
theorem Tb.tn (h:Tb w B t m r n L) (ht:Tn S w w') (hS:∀j,Bk t m j→¬S j):Tb w' B t m r n L:=by
 obtain⟨h1,h2,h3,h4⟩:=h;exact⟨h1,h2,(ht.block t (lt_of_some h3) (hS t (.inl rfl))).trans h3,h4.of_block (ht.block m h4.lt (hS m (.inr rfl)))⟩
theorem Tb.quiet (h:Tb w B t m r n L) (ht:Tn (fun _=>False) w w'):Tb w' B t m r n L:=h.tn ht fun _ _ hc=>hc
theorem Tb.later (h:Tb w B t m r n L) (hb:Below w.heap.size w w'):Tb w' B t m r n L:=h.quiet (Tn.of_below hb _)
theorem Tb.ne (h:Tb w B t m r n L):t≠m:=fun e=>by
 subst e;exact h.2.2.2.not _ _ _ h.2.2.1
theorem Tb.lt (h:Tb w B t m r n L) (j:Nat) (hj:Bk t m j):B≤j∧j<w.heap.size:=by
 rcases hj with rfl |rfl
 ·exact⟨h.1,lt_of_some h.2.2.1⟩
 ·exact⟨h.2.1,h.2.2.2.lt⟩
theorem Tb.nd (h:Tb w B t m r n L):(L.map (·.1)).Nodup:=by
 have:=h.2.2.2.nd;rwa [Jxs] at this
theorem Tb.type (h:Tb w B t m r n L) {j:Nat} (hj:Bk t m j) {cs:Array Value} {ty:TypeId} {f:Nat×Nat} (hc:w.heap[j]?=some (.cells cs ty f)):ty=128:=by
 rcases hj with rfl |rfl
 ·rw [h.2.2.1] at hc
  injection hc with hc;injection hc with _ hc;exact hc.symm
 ·exact absurd hc (h.2.2.2.not _ _ _)
end
structure Kept (w:World) (B t m:Nat) (r n:Int) (L:Cs) (w':World):Prop where
 tb:Tb w' B t m r n L
 tn:Tn (Bk t m) w w'
theorem Kept.below {w w':World} {B t m:Nat} {r n n0:Int} {L L0:Cs} (h:Kept w B t m r n L w') (h0:Tb w B t m r n0 L0) (hB:B≤w.heap.size):Below B w w':=h.tn.below (fun k hk=>(h0.lt k hk).1) hB

theorem zeroCur (w:World):(zeroValue 308).run prog w= .ok (curV c0) w:=by kernel_rfl
def MadeC (w:World) (r:Int) (e:Ending) (w':World):Prop:=∃t m,e= .returned (.pointer (some ⟨t,0,none⟩))∧Tb w' w.heap.size t m r 0 []∧Below w.heap.size w w'
theorem new_any (room r:Int) (w:World) (hr:r=min (max room 1) 1024):
  Calls prog 90 #[.int .i64 room] w (MadeC w r):=by
 obtain⟨m1,hm1⟩:∃m1,max room 1=m1:=⟨_,rfl⟩
 rw [hm1] at hr;have hm2:min m1 1024=r:=hr.symm;have hmm:=@run_makeMap prog;obtain⟨W1,hW1⟩:=words.nm (w.alloc (.map #[] 0));obtain⟨W2,hW2⟩:=words.nm (W1.alloc (.cells #[.int .i64 r,.int .i64 0,.map (some w.heap.size)] 128));have hb1:=words.b1 hW1;have hz:W1.heap.size=w.heap.size+1:=by rw [hW1];simp
 have hb2:Below W1.heap.size W1 W2:=words.b1 hW2;have hm:MapL W1 prog 3 w.heap.size (cR []):=by rw [hW1];exact MapL.made w prog 3
 have HE:Hid (MadeC w r (.returned (.pointer (some ⟨w.heap.size+1,0,none⟩))) W2):=hid ⟨_,w.heap.size,rfl,⟨Nat.le_succ _,Nat.le_refl _,by rw [←hz,hW2];exact heap_alloc_new W1 _,hm.of_block (hb2.block _ hm.lt)⟩,hb1.trans (hb2.mono hb1.size)⟩;clear hr hb1 hz hb2 hm;go_enter func90,ntmps90
 go_wp2
 rw [←hW1,←hW2];clear hW1 hW2;go_ret
 exact HE.out
section
variable (B t m:Nat) (r n:Int) (L:Cs) (x:Int) (w:World)
theorem clen_any (h:Tb w B t m r n L):
  Calls prog 24 #[.pointer (some ⟨t,0,none⟩)] w fun e w'=>e= .returned (.int .i64 (L.length:Int))∧w=w':=by
 have d2:=Jaa h.2.2.1 2;have hl:=fun ty=>h.2.2.2.len underlying126 ty;rw [Jx6] at hl;clear h;go_enter func24,ntmps24
 go_wp2
 go_ret
 exact⟨rfl,rfl⟩
def gotC (L:Cs) (x:Int):Cu:=(valC L x).getD c0
def gotE (L:Cs) (x:Int):Int:=if (valC L x).isSome then 0 else 9
def GotC (w:World) (c:Cu) (k:Int) (e:Ending) (w':World):Prop:=e= .returned (.tuple #[.agg #[.int .i64 c.ep,.string c.dr,.int .i64 c.at_],.int .i64 k])∧Below w.heap.size w w'
theorem Jt6 {w w1 w9:World} {q:Nat} {c:Cu} {cs:Array Value} (hb:Below w.heap.size w w1) (hq:w.heap.size≤q) (hz:w1.heap[q]?=some (.cells cs 308 (0,0))) (hc:cs.size=3)
  (h9:w9=((w1.setCell ⟨q,0,none⟩ (.int .i64 c.ep)).setCell ⟨q,1,none⟩ (.string c.dr)).setCell ⟨q,2,none⟩ (.int .i64 c.at_)):w9.heap[q]?=some (.cells #[.int .i64 c.ep,.string c.dr,.int .i64 c.at_] 308 (0,0))∧Below w.heap.size w w9:=by
 have e:w9=setsV w1 q 0 [.int .i64 c.ep,.string c.dr,.int .i64 c.at_]:=h9;constructor
 ·rw [e]
  exact Jcv hz hc.symm
 ·rw [e]
  exact ((Tn.of_below hb (fun k=>k=q)).trans (Jc3 (S:=fun k=>k=q) _ (.inr rfl) _ _ _ (Tn.refl _ _))).below (fun k hk=>by omega) (Nat.le_refl _)
theorem Jf3 (h:Tb w B t m r n L) (hx:Fits x):
  Calls prog 217 #[.pointer (some ⟨t,0,none⟩),.int .i64 x] w (GotC w (gotC L x) (gotE L x)):=by
 obtain⟨W1,hW1⟩:=words.nm (w.alloc (.cells #[.int .i64 0,.string ⟨#[]⟩,.int .i64 0] 308));have hb1:=words.b1 hW1;have hk1:W1.heap[w.heap.size]?=some (.cells #[.int .i64 0,.string ⟨#[]⟩,.int .i64 0] 308 (0,0)):=by rw [hW1];exact heap_alloc_new w _
 have hT1:=h.later hb1;have d2:=Jaa hT1.2.2.1 2;obtain⟨c,hc⟩:=words.nm (gotC L x);obtain⟨k,hk⟩:=words.nm (gotE L x);rw [←hc,←hk];obtain⟨ep,dr,at_⟩:=c;obtain⟨W2,hW2⟩:=words.nm (W1.alloc (.cells #[.int .i64 ep,.string dr,.int .i64 at_] 308));have hb2:Below W1.heap.size W1 W2:=words.b1 hW2;have hk2:W2.heap[W1.heap.size]?=some (.cells #[.int .i64 ep,.string dr,.int .i64 at_] 308 (0,0)):=by rw [hW2];exact heap_alloc_new W1 _
 have hk12:=(hb2.block _ (lt_of_some hk1)).trans hk1;have s0:=Jaa hk2 0;have s1:=Jaa hk2 1;have s2:=Jaa hk2 2;have z0:=Jaa hk12 0;have z1:=Jaa hk12 1;have z2:=Jaa hk12 2;have fz0:=Jab hk12 0;have fz1:=Jab hk12 1;have fz2:=Jab hk12 2;have hlk:=hT1.2.2.2.look_ok underlying3 underlying126 (zeroCur W1) hx;rw [Jvu] at hlk;obtain⟨W9,hW9⟩:=words.nm (((W2.setCell ⟨w.heap.size,0,none⟩ (.int .i64 ep)).setCell ⟨w.heap.size,1,none⟩ (.string dr)).setCell ⟨w.heap.size,2,none⟩ (.int .i64 at_));obtain⟨k1,k2⟩:=Jt6 (c:=⟨ep,dr,at_⟩) (hb1.trans (hb2.mono hb1.size)) (Nat.le_refl _) hk12 rfl hW9;have y0:=Jaa k1 0;have y1:=Jaa k1 1;have y2:=Jaa k1 2;have HE:Hid (GotC w ⟨ep,dr,at_⟩ k (.returned (.tuple #[.agg #[.int .i64 ep,.string dr,.int .i64 at_],.int .i64 k])) W9):=hid ⟨rfl,k2⟩;have HW1:=hid hW1;have HW2:=hid hW2;obtain⟨q,hq⟩:=words.nm (W1.heap.size);rw [←hq] at s0 s1 s2;have HQ:Hid (W1.heap.size=q):=hid hq.symm;have HQ2:Hid (w.heap.size+1=q):=hid (by rw [hq,hW1];simp);rcases hv:valC L x with _ |c
 ·have ek:k=9:=by rw [hk];unfold gotE;rw [hv];rfl
  have ec:(⟨ep,dr,at_⟩:Cu)=c0:=by rw [hc];unfold gotC;rw [hv];rfl
  rw [hv] at hlk;injection ec with e1 e2 e3;subst e1 e2 e3 ek;replace hlk:(Instr.lookup 126 (.map (some m)) (.int .i64 x) true).run prog W1= .ok (.tuple #[.agg #[.int .i64 0,.string ⟨#[]⟩,.int .i64 0],.bool false]) W1:=hlk;clear h hb1 hk1 hT1 hb2 hk2 hk12 hx hc hk hv k1 k2 hW1 hW2 hq;go_enter func217,ntmps217
  go_upto_region 1 with fail
  rw [←HW1.out];go_upto_region 2 with fail
  rw [←HW2.out];clear d2 hlk;go_wp2
  rw [←hW9];exact bodyPost_ret (v:= .tuple #[.agg #[.int .i64 0,.string ⟨#[]⟩,.int .i64 0],.int .i64 9]) (by simp [results,results217,go_sem,y0,y1,y2]) rfl HE.out
 ·have ek:k=0:=by rw [hk];unfold gotE;rw [hv];rfl
  have ec:(⟨ep,dr,at_⟩:Cu)=c:=by rw [hc];unfold gotC;rw [hv];rfl
  rw [hv] at hlk;subst ec ek;replace hlk:(Instr.lookup 126 (.map (some m)) (.int .i64 x) true).run prog W1= .ok (.tuple #[.agg #[.int .i64 ep,.string dr,.int .i64 at_],.bool true]) W1:=hlk;clear h hb1 hk1 hT1 hb2 hk2 hk12 hx hc hk hv k1 k2 hW1 hW2 hq;go_enter func217,ntmps217
  go_upto_region 1 with fail
  rw [←HW1.out];go_upto_region 2 with fail
  rw [←HW2.out];try rw [HQ.out]
  try rw [HQ2.out]
  clear d2 hlk;go_wp2
  rw [←hW9];exact bodyPost_ret (v:= .tuple #[.agg #[.int .i64 ep,.string dr,.int .i64 at_],.int .i64 0]) (by simp [results,results217,go_sem,y0,y1,y2]) rfl HE.out
end
end Go.Proofs.YtekekhgjobahaaaGreatDoor.cur

namespace Go.Proofs.YtekekhgjobahaaaGreatDoor.cur
open Go.RowKit words lru mpi

section
variable {w w':World} {B t m:Nat} {r n n':Int} {L L':Cs}
theorem Tb.stored (h:Tb w B t m r n L) (hm:MapL w' prog 3 m (cR L')) (ht:Tn (fun j=>j=m) w w'):Tb w' B t m r n L':=
 ⟨h.1,h.2.1,(ht.block t (lt_of_some h.2.2.1) h.ne).trans h.2.2.1,hm⟩
theorem Tb.opened (h:Tb w B t m r n L) (hw:w'=w.setCell ⟨t,1,none⟩ (.int .i64 n')):Tb w' B t m r n' L∧Tn (fun j=>j=t) w w':=by
 have ht:Tn (fun j=>j=t) w w':=by rw [hw];exact (Tn.refl (fun j=>j=t) w).setCell (p:=⟨t,1,none⟩) (.inr rfl) _
 refine⟨⟨h.1,h.2.1,?_,h.2.2.2.of_block (ht.block m h.2.2.2.lt (fun e=>h.ne e.symm))⟩,ht⟩;rw [hw];exact heap_setCell_same w t 1 _ _ _ h.2.2.1
theorem below_drewN (w:World) (n:Nat):Below w.heap.size w (w.drewN n):=⟨rfl,rfl,rfl,Nat.le_refl _,fun _ _=>rfl⟩
end
section
variable (B t m:Nat) (r n:Int) (L:Cs) (x:Int) (w:World)
def GoneC (w:World) (k:Int) (e:Ending) (w':World):Prop:=e= .returned (.int .i64 k)∧Below w.heap.size w w'
theorem close_no (h:Tb w B t m r n L) (hx:Fits x) (hno:valC L x=none):
  Calls prog 190 #[.pointer (some ⟨t,0,none⟩),.int .i64 x] w (GoneC w 9):=by
 have hg:=Jf3 B t m r n L x w h hx;have ek:gotE L x=9:=by unfold gotE;rw [hno];rfl
 rw [ek] at hg;have HG:=hid hg;clear h hg hno ek hx;go_enter func190,ntmps190
 go_wp2_with fail
 refine HG.out.mono ?_;rintro e w1 ⟨rfl,hb1⟩;have HB:=hid hb1;clear hb1;go_wp2
 go_ret
 exact⟨rfl,HB.out.trans ((Below.refl _ _).alloc HB.out.size _)⟩
end
end Go.Proofs.YtekekhgjobahaaaGreatDoor.cur
