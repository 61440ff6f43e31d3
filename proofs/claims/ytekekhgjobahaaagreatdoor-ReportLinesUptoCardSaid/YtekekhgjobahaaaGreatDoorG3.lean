import Derived.Test.YtekekhgjobahaaaGreatDoorG0
import Derived.Laws.CopyOwn
set_option maxRecDepth 100000
namespace Go.Proofs.YtekekhgjobahaaaGreatDoor.lru

section
variable {κ ν:Type}
structure Ok (L:List (κ×ν)) (r:Nat):Prop where
 nd:(L.map (·.1)).Nodup
 len:L.length≤r
 pos:1≤r
theorem Jg8 {L:List (κ×ν)} {i:Nat} {p:κ×ν} (h:L[i]?=some p):L=L.take i++p::L.drop (i+1):=by
 obtain⟨hi,hp⟩:=List.getElem?_eq_some_iff.1 h;rw [←hp,List.getElem_cons_drop hi,List.take_append_drop]
theorem Jg4 {L A B:List (κ×ν)} {p:κ×ν} (h:L=A++p::B) (nd:(L.map (·.1)).Nodup):(∀q∈A,q.1≠p.1)∧(∀q∈B,q.1≠p.1):=by
 subst h;rw [List.map_append,List.map_cons,List.nodup_append] at nd;obtain⟨_,h2,h3⟩:=nd;rw [List.nodup_cons] at h2;exact⟨fun q hq=>h3 _ (List.mem_map_of_mem hq) _ (List.mem_cons_self ..),fun q hq he=>h2.1 (he▸List.mem_map_of_mem hq)⟩
theorem Ok.new {r:Nat} (h:1≤r):Ok ([]:List (κ×ν)) r:=⟨List.nodup_nil,Nat.zero_le _,h⟩
end
section
variable {κ ν:Type} [DecidableEq κ]
def rest (L:List (κ×ν)) (k:κ):List (κ×ν):=L.filter fun p=> !decide (p.1=k)
def val (L:List (κ×ν)) (k:κ):Option ν:=(L.find? fun p=>decide (p.1=k)).map (·.2)
def getL (L:List (κ×ν)) (k:κ):List (κ×ν):=match val L k with
 |some v=>(k,v)::rest L k
 |none=>L
def goneB (L:List (κ×ν)) (r:Nat) (k:κ):Bool:=decide (r<(rest L k).length+1)
def goneK (L:List (κ×ν)) (r:Nat) (k z:κ):κ:=if goneB L r k=true then (((rest L k).getLast?).map (·.1)).getD z else z
def putL (L:List (κ×ν)) (r:Nat) (k:κ) (v:ν):List (κ×ν):=if goneB L r k=true then ((k,v)::rest L k).dropLast else (k,v)::rest L k
theorem Jc9 {L:List (κ×ν)} {k:κ} (h:∀p∈L,p.1≠k):rest L k=L:=
 List.filter_eq_self.2 fun p hp=>by simp [h p hp]
theorem Jk7 {L:List (κ×ν)} {k:κ} {p:κ×ν}:p∈rest L k↔p∈L∧p.1≠k:=by simp [rest]
theorem Jl5 (L:List (κ×ν)) (k:κ):(rest L k).length≤L.length:=List.length_filter_le _ _
theorem Jmh {L:List (κ×ν)} {i:Nat} {k:κ} {x:ν} (h:L[i]?=some (k,x)) (nd:(L.map (·.1)).Nodup):rest L k=L.take i++L.drop (i+1):=by
 have hs:=Jg8 h;obtain⟨h1,h2⟩:=Jg4 hs nd;have e:rest L k=rest (L.take i++(k,x)::L.drop (i+1)) k:=by rw [←hs]
 rw [e];unfold rest;rw [List.filter_append,List.filter_cons_of_neg (by simp)];have r1:=Jc9 h1;have r2:=Jc9 h2;unfold rest at r1 r2;rw [r1,r2]
theorem Jj9 {L:List (κ×ν)} {k:κ} (h:∀p∈L,p.1≠k):val L k=none:=by
 unfold val;rw [List.find?_eq_none.2 (fun p hp=>by simp [h p hp])];rfl
theorem Jmu {L:List (κ×ν)} {i:Nat} {k:κ} {x:ν} (h:L[i]?=some (k,x)) (nd:(L.map (·.1)).Nodup):val L k=some x:=by
 have hs:=Jg8 h;obtain⟨h1,_⟩:=Jg4 hs nd;have e:val L k=val (L.take i++(k,x)::L.drop (i+1)) k:=by rw [←hs]
 rw [e];unfold val;rw [List.find?_append,List.find?_eq_none.2 (fun p hp=>by simp [h1 p hp])];simp
theorem there (L:List (κ×ν)) (k:κ):(∃(i:Nat) (x:ν),L[i]?=some (k,x))∨∀p∈L,p.1≠k:=by
 by_cases h:∃p,p∈L∧p.1=k
 ·obtain⟨⟨a,x⟩,hp,rfl⟩:=h
  obtain⟨i,hi⟩:=List.mem_iff_getElem?.1 hp;exact .inl ⟨i,x,hi⟩
 ·exact .inr fun p hp he=>h ⟨p,hp,he⟩
theorem Jl2 {L:List (κ×ν)} (k:κ) (nd:(L.map (·.1)).Nodup):((rest L k).map (·.1)).Nodup:=
 List.Sublist.nodup (List.Sublist.map _ List.filter_sublist) nd
theorem Jle {L:List (κ×ν)} (k:κ) (v:ν) (nd:(L.map (·.1)).Nodup):(((k,v)::rest L k).map (·.1)).Nodup:=by
 rw [List.map_cons,List.nodup_cons];refine⟨fun h=>?_,Jl2 k nd⟩;obtain⟨p,hp,he⟩:=List.mem_map.1 h;exact (Jk7.1 hp).2 he
theorem Ok.put {L:List (κ×ν)} {r:Nat} (h:Ok L r) (k:κ) (v:ν):Ok (putL L r k v) r:=by
 unfold putL;split
 ·refine⟨List.Sublist.nodup (List.Sublist.map _ (List.dropLast_sublist _)) (Jle k v h.nd),?_,h.pos⟩
  have:=Jl5 L k;have:=h.len;rw [List.length_dropLast,List.length_cons];omega
 ·rename_i hg
  refine⟨Jle k v h.nd,?_,h.pos⟩;have:¬r<(rest L k).length+1:=by simpa [goneB] using hg
  rw [List.length_cons];omega

theorem Jcs {L:List (κ×ν)} {r:Nat} {k:κ} (hn:∀p∈L,p.1≠k) (hl:L.length<r) (v:ν) (z:κ):
  putL L r k v=(k,v)::L∧goneB L r k=false∧goneK L r k z=z:=by
 have hr:=Jc9 hn;have hg:goneB L r k=false:=by simp [goneB,hr];omega
 refine⟨?_,hg,?_⟩
 ·unfold putL;rw [hg,if_neg (by simp),hr]
 ·unfold goneK;rw [hg,if_neg (by simp)]
theorem Jlk {L:List (κ×ν)} {r i:Nat} {k:κ} {x:ν} (h:Ok L r) (hi:L[i]?=some (k,x)):val L k=some x∧getL L k=(k,x)::(L.take i++L.drop (i+1)):=by
 have hv:=Jmu hi h.nd;refine⟨hv,?_⟩;unfold getL;rw [hv,Jmh hi h.nd]
theorem Jgs {L:List (κ×ν)} {k:κ} (hn:∀p∈L,p.1≠k):val L k=none∧getL L k=L:=by
 have hv:=Jj9 hn;refine⟨hv,?_⟩;unfold getL;rw [hv]
end
end Go.Proofs.YtekekhgjobahaaaGreatDoor.lru

namespace Go.Proofs.YtekekhgjobahaaaGreatDoor.lru
open Go.RowKit words

structure Tn (S:Nat→Prop) (w w':World):Prop where
 os:w'.os=w.os
 tape:w'.tape=w.tape
 output:w'.output=w.output
 size:w.heap.size≤w'.heap.size
 block:∀k,k<w.heap.size→¬S k→w'.heap[k]?=w.heap[k]?
section
variable {S:Nat→Prop} {a w w':World}
theorem Tn.refl (S:Nat→Prop) (w:World):Tn S w w:=⟨rfl,rfl,rfl,Nat.le_refl _,fun _ _ _=>rfl⟩
theorem Tn.drew (h:Tn S a w):Tn S a w.drew:=⟨h.os,h.tape,h.output,h.size,h.block⟩
theorem Tn.drewN (h:Tn S a w) (n:Nat):Tn S a (w.drewN n):=⟨h.os,h.tape,h.output,h.size,h.block⟩
theorem Tn.trans (h:Tn S a w) (h':Tn S w w'):Tn S a w':=
 ⟨h'.os.trans h.os,h'.tape.trans h.tape,h'.output.trans h.output,Nat.le_trans h.size h'.size,fun k hk hS=>(h'.block k (Nat.lt_of_lt_of_le hk h.size) hS).trans (h.block k hk hS)⟩
theorem Tn.then {S':Nat→Prop} (h:Tn S a w) (h':Tn S' w w') (hS:∀k,k<a.heap.size→S' k→S k):Tn S a w':=
 ⟨h'.os.trans h.os,h'.tape.trans h.tape,h'.output.trans h.output,Nat.le_trans h.size h'.size,fun k hk hn=>(h'.block k (Nat.lt_of_lt_of_le hk h.size) (fun hc=>hn (hS k hk hc))).trans (h.block k hk hn)⟩
theorem Tn.mono {S':Nat→Prop} (h:Tn S w w') (hS:∀k,S k→S' k):Tn S' w w':=
 ⟨h.os,h.tape,h.output,h.size,fun k hk hn=>h.block k hk fun hc=>hn (hS k hc)⟩
theorem Tn.alloc (h:Tn S a w) (o:Obj):Tn S a (w.alloc o):=
 ⟨h.os,h.tape,h.output,Nat.le_trans h.size (by simp),fun k hk hn=>(Below.heap_alloc w o k (Nat.lt_of_lt_of_le hk h.size)).trans (h.block k hk hn)⟩
theorem Tn.setCell (h:Tn S a w) {p:Addr} (hp:a.heap.size≤p.block∨S p.block) (u:Value):Tn S a (w.setCell p u):=
 ⟨h.os,h.tape,h.output,by simpa [World.setCell] using h.size,fun k hk hn=>(Below.heap_setCell w p u k (fun e=>by subst e;rcases hp with hp |hp;omega;exact hn hp)).trans (h.block k hk hn)⟩
theorem Tn.setRow (h:Tn S a w) {g:Nat} (hp:a.heap.size≤g∨S g) (cs:Array Value):Tn S a (w.setRow g cs):=
 ⟨h.os,h.tape,h.output,by simpa [World.setRow] using h.size,fun k hk hn=>(setRow_other w g k cs (fun e=>by subst e;rcases hp with hp |hp;omega;exact hn hp)).trans (h.block k hk hn)⟩
theorem Tn.grown {row:Option Nat} (h:Tn S a w) (hg:w.grownBy w' row) (hr:∀k,row=some k→a.heap.size≤k∨S k):Tn S a w':=
 ⟨hg.os.trans h.os,hg.tape.trans h.tape,hg.output.trans h.output,Nat.le_trans h.size hg.size,fun k hk hn=>
   (hg.block k (Nat.lt_of_lt_of_le hk h.size) (fun e=>by rcases hr k e.symm with hp |hp;omega;exact hn hp)).trans (h.block k hk hn)⟩
theorem Tn.of_below (h:Below a.heap.size a w) (S:Nat→Prop):Tn S a w:=⟨h.os,h.tape,h.output,h.size,fun k hk _=>h.block k hk⟩
theorem Tn.below {B:Nat} (h:Tn S a w) (hS:∀k,S k→B≤k) (hB:B≤a.heap.size):Below B a w:=
 ⟨h.os,h.tape,h.output,h.size,fun k hk=>h.block k (Nat.lt_of_lt_of_le hk hB) fun hc=>by have:=hS k hc;omega⟩
theorem Tn.kept {T:TypeId→Prop} {B:Nat} (h:Tn S a w) (hS:∀k,S k→B≤k∧∃cs t f,a.heap[k]?=some (.cells cs t f)∧T t):Kept T B a w:=
 ⟨h.os,h.tape,h.output,h.size,fun k hk hc=>h.block k hk fun hs=>by
   obtain⟨h1,cs,t,f,h2,h3⟩:=hS k hs;rcases hc with hc |hc
   ·omega
   ·exact hc cs t f h2 h3⟩
theorem Tn.own {base:Nat} {e:TypeId} {size n:Nat} {v:Value} {xs:List Value} (h:Tn S a w) (hown:a.ownsRow base e size v n xs) (hn:∀k,v.ownBlock=some k→¬S k):w.ownsRow base e size v n xs:=by
 refine⟨hown.1,?_⟩;rcases hown.2 with h0 |⟨g,cap,cur,rfl,hb,hh,hr⟩
 ·exact .inl h0
 ·exact .inr ⟨g,cap,cur,rfl,hb,(h.block g (lt_of_some hh) (hn g rfl)).trans hh,hr⟩
end

section
variable {P:Program} (w:World)
theorem Jdw (dT sT ty elem:TypeId) (n m:Nat) (dp sp:Option Addr) (dLen dCap sLen sCap:Nat) (hu:P.underlying dT=some (.slice elem)) (hs:(P.info? elem).map (·.size)=some m) (hn:n=Nat.min sLen dLen)
  (g o:Nat) (cur:Array Value) (t:TypeId) (hg:w.heap[g]?=some (.cells cur t (0,0))) (cs:List Value) (hl:cs.length=n*m)
  (hpos:0<n→dp=some ⟨g,o,none⟩∧∃a,sp=some a∧∀j v,cs[j]?=some v→w.cell? (a.add j)=some v) (hfit:o+cs.length≤cur.size) (h1:∀v∈cs,v.oneCell'=true):
  (Builtin.copy_ #[dT,sT] ty #[.slice dp dLen dCap,.slice sp sLen sCap]).run P w= .ok (goInt n) (w.setRow g (cur.toList.take o++cs++cur.toList.drop (o+cs.length)).toArray):=by
 rcases hq:P.info? elem with _ |i
 ·simp [hq] at hs
 ·have hi:i.size=m:=by simpa [hq] using hs
  rcases Nat.eq_zero_or_pos n with h0 |h0
  ·have hcs:cs=[]:=List.eq_nil_of_length_eq_zero (by rw [hl,h0,Nat.zero_mul])
   subst hcs;have hw:w.setRow g (cur.toList.take o++[]++cur.toList.drop (o+([]:List Value).length)).toArray=w:=by
    rw [List.append_nil,List.length_nil,Nat.add_zero,List.take_append_drop,Array.toArray_toList];exact setRow_self w g cur t (0,0) hg
   rw [hw,h0];have hmin:Nat.min sLen dLen=0:=by omega
   have hld:∀a:Addr,(loadCells a 0).run P w= .ok #[] w:=fun a=>run_loadCells_list (P:=P) w a [] (fun j v hj=>by simp at hj);rcases dp with _ |d<;>rcases sp with _ |s<;>
    simp [Builtin.copy_,run_underlying hu,Builtin.lenOf,Builtin.firstCells,sizeOf,typeInfo,hq,hmin,hld,storeCells]
  ·obtain⟨rfl,a,rfl,hsrc⟩:=hpos h0
   have hld:=run_loadCells_list (P:=P) w a cs hsrc;have hst:=run_storeCells_at P g o t cs 0 cur w hg (by simpa using hfit) h1;simp [Builtin.copy_,run_underlying hu,Builtin.lenOf,Builtin.firstCells,sizeOf,typeInfo,hq,hi,←hn,←hl,hld,hst]
theorem Jbu {ops:Array Oper} {o:Oper} {a:Act} {K:Act→World→Prop} {Q:Exit→Act→World→Prop} {E:Prop} (hgd:o.guard=none) (d s:Operand) (dT sT:TypeId)
  (ho:o.op= .call {callee:= .builtin .copy,args:=#[d,s],argTypes:=#[dT,sT]}) (elem:TypeId) (n m:Nat) (dp sp:Option Addr) (dLen dCap sLen sCap:Nat) (hu:P.underlying dT=some (.slice elem)) (hsz:(P.info? elem).map (·.size)=some m)
  (hn:n=Nat.min sLen dLen) (hd:a.eval d= .slice dp dLen dCap) (hs:a.eval s= .slice sp sLen sCap)
  (g off:Nat) (cur:Array Value) (t:TypeId) (hg:w.heap[g]?=some (.cells cur t (0,0))) (cs:List Value) (hl:cs.length=n*m)
  (hpos:0<n→dp=some ⟨g,off,none⟩∧∃a,sp=some a∧∀j v,cs[j]?=some v→w.cell? (a.add j)=some v) (hfit:off+cs.length≤cur.size) (h1:∀v∈cs,v.oneCell'=true)
  (h:K (a.put o.dst (goInt n)) (w.setRow g (cur.toList.take off++cs++cur.toList.drop (off+cs.length)).toArray)):
  if Region.wanted o (yielded ops a.tmps)=true then Oper.wp P o a w K Q else E:=by
 have hw:Region.wanted o (yielded ops a.tmps)=true:=by simp [Region.wanted,hgd]
 rw [if_pos hw];have hrun:=Jdw (P:=P) w dT sT o.type elem n m dp sp dLen dCap sLen sCap hu hsz hn g off cur t hg cs hl hpos hfit h1;unfold Oper.wp;simp only [execOp,ho,resolve,invoke,builtin,Sem.run_bind,Sem.run_pure,Result.andThen_ok,List.map_toArray,List.map_cons,List.map_nil,hd,hs,hrun];exact h
end
theorem own_facts {w:World} {B:Nat} {E:TypeId} {size n:Nat} {v:Value} {xs:List Value} (h:w.ownsRow B E size v n xs):∃A c,v= .slice A n c∧n≤c∧c≤maxLen∧(A=none→n=0∧c=0):=by
 rcases h.2 with⟨rfl,rfl⟩ |⟨g,cap,cur,rfl,_,_,hle,hm,_⟩
 ·exact⟨none,0,rfl,Nat.le_refl _,Nat.zero_le _,fun _=>⟨rfl,rfl⟩⟩
 ·exact⟨_,cap,rfl,hle,hm,fun h=>by cases h⟩
theorem own_at {w:World} {B n size:Nat} {E:TypeId} {v:Value} {xs:List Value} (h:w.ownsRow B E size v n xs) {j:Nat} {u:Value} (hj:xs[j]?=some u):∃g c,v= .slice (some ⟨g,0,none⟩) n c∧B≤g∧g<w.heap.size∧w.cell? ⟨g,j,none⟩=some u:=by
 rcases h.2 with⟨rfl,rfl⟩ |⟨g,cap,cur,rfl,hb,hh,h1,h2,h3,h4⟩
 ·have:=h.1
  rw [Nat.zero_mul] at this;rw [List.eq_nil_of_length_eq_zero this] at hj;simp at hj
 ·refine⟨g,cap,rfl,hb,lt_of_some hh,?_⟩
  rw [Jaa hh,←Array.getElem?_toList];rw [←h4,List.getElem?_take] at hj;split at hj
  ·exact hj
  ·cases hj
theorem own_mono {w:World} {B B' size n:Nat} {E:TypeId} {v:Value} {xs:List Value} (h:w.ownsRow B E size v n xs) (hB:B'≤B):w.ownsRow B' E size v n xs:=by
 refine⟨h.1,?_⟩;rcases h.2 with h0 |⟨g,cap,cur,h1,h2,h3⟩
 ·exact .inl h0
 ·exact .inr ⟨g,cap,cur,h1,Nat.le_trans hB h2,h3⟩
theorem keep_grown {S:Nat} {a w w':World} {v:Value} {base n sz:Nat} {e:TypeId} {xs:List Value} (h:Below S a w) (ho:w.ownsRow base e sz v n xs) (hg:w.grownBy w' v.ownBlock) (hB:S≤base) (hs:S≤a.heap.size):Below S a w':=
 h.trans ⟨hg.os,hg.tape,hg.output,hg.size,fun k hk=>hg.block k (Nat.lt_of_lt_of_le (Nat.lt_of_lt_of_le hk hs) h.size) (fun e=>by have:=(ho.lt k e.symm).1;omega)⟩
theorem ownL {w w':World} {B size n:Nat} {E:TypeId} {v:Value} {xs:List Value} (h:w.ownsRow B E size v n xs) (hb:Below w.heap.size w w'):w'.ownsRow B E size v n xs:=by
 refine⟨h.1,?_⟩;rcases h.2 with h0 |⟨g,cap,cur,h1,h2,h3,h4⟩
 ·exact .inl h0
 ·exact .inr ⟨g,cap,cur,h1,h2,(hb.block g (lt_of_some h3)).trans h3,h4⟩
theorem add_place (b off j:Nat):(⟨b,off,none⟩:Addr).add j=⟨b,off+j,none⟩:=by unfold Addr.add;split<;>simp_all
theorem Jgn (w:World) (cs:Array Value) (E:TypeId) (i:Nat):(w.alloc (.cells cs E)).cell? ((⟨w.heap.size,0,none⟩:Addr).add i)=cs[i]?:=by
 rw [add_place,Nat.zero_add];exact Jaa (heap_alloc_new w _) i
theorem info_three {P:Program} {t:TypeId} {z:Option Value} {n b:Nat} (h:(P.info? t).map (fun i=>(i.zero,i.size,i.bytes))=some (z,n,b)):∃i,P.info? t=some i∧i.zero=z∧i.size=n∧i.bytes=b:=by
 rcases hi:P.info? t with _ |i
 ·rw [hi] at h;cases h
 ·rw [hi] at h
  injection h with h;injection h with h1 h2;injection h2 with h2 h3;exact⟨i,rfl,h1,h2,h3⟩
end Go.Proofs.YtekekhgjobahaaaGreatDoor.lru
