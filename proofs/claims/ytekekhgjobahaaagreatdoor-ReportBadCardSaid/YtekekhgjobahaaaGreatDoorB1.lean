import Derived.Test.YtekekhgjobahaaaGreatDoorA9
import Derived.Lib.LazyBuf
import Derived.Test.YtekekhgjobahaaaGreatDoorB0
import Derived.Deep.Upon
set_option maxHeartbeats 1600000
set_option maxRecDepth 100000
open Go.Lib (hid)
open Go.Proofs.Tryz
namespace Go.Proofs.YtekekhgjobahaaaGreatDoor.tre
open Go.RowKit words ext name

def TxtIn (w:World) (P:Nat→Prop) (A:Option Addr) (Q:List ByteArray):Prop:=
 ∀i x,Q[i]?=some x→(∃b off,A=some ⟨b,off,none⟩∧P b∧w.cell? ⟨b,off+i,none⟩=some (.string x))∧x.size≤140737488355328
def ExtIn (w:World) (P:Nat→Prop) (A:Option Addr) (L:List Ex):Prop:=
 ∀i x,L[i]?=some x→(∃b off,A=some ⟨b,off,none⟩∧P b∧w.cell? ⟨b,off+i*2,none⟩=some (.int .i64 x.O)∧w.cell? ⟨b,off+i*2+1,none⟩=some (.string x.D))∧
  -9223372036854775808≤x.O∧x.O≤9223372036854775807∧x.D.size≤140737488355328
inductive NdIn (w:World) (P:Nat→Prop):Nd→Raw→Prop
 |mk {n:Nd} {r:Raw} (rs:Nat→Raw) (fit:Fit n r) (names:TxtIn w P r.An n.N) (exts:ExtIn w P r.Ae n.E)
   (cells:∀i x,n.I[i]?=some x→∃b off,r.Ai=some ⟨b,off,none⟩∧P b∧∀j v,(rawCells x (rs i))[j]?=some v→w.cell? ⟨b,off+i*7+j,none⟩=some v)
   (items:∀i x,n.I[i]?=some x→NdIn w P x (rs i)):NdIn w P n r
theorem NdIn.keep {w w':World} {P P':Nat→Prop} {n:Nd} {r:Raw} (h:NdIn w P n r) (hk:∀b,P b→w'.heap[b]?=w.heap[b]?∧P' b):NdIn w' P' n r:=by
 have hc:∀b o,P b→w'.cell? ⟨b,o,none⟩=w.cell? ⟨b,o,none⟩:=fun b o hb=>World.cell?_of_block (hk b hb).1
 induction h with
 |mk rs fit names exts cells items ih=>
  refine .mk rs fit (fun i x hx=>?_) (fun i x hx=>?_) (fun i x hx=>?_) ih
  ·obtain⟨⟨b,off,h1,h2,h3⟩,h4⟩:=names i x hx
   exact⟨⟨b,off,h1,(hk b h2).2,(hc b _ h2).trans h3⟩,h4⟩
  ·obtain⟨⟨b,off,h1,h2,h3,h3'⟩,h4⟩:=exts i x hx
   exact⟨⟨b,off,h1,(hk b h2).2,(hc b _ h2).trans h3,(hc b _ h2).trans h3'⟩,h4⟩
  ·obtain⟨b,off,h1,h2,h3⟩:=cells i x hx
   exact⟨b,off,h1,(hk b h2).2,fun j v hj=>(hc b _ h2).trans (h3 j v hj)⟩
theorem NdIn.at_ {w:World} {P:Nat→Prop} {B:Nat} {n:Nd} {r:Raw} (h:NdIn w P n r) (hP:∀b,P b→b<B):NdAt w B n r:=by
 induction h with
 |mk rs fit names exts cells items ih=>
  refine .mk rs fit (fun i x hx=>?_) (fun i x hx=>?_) (fun i x hx=>?_) ih
  ·obtain⟨⟨b,off,h1,h2,h3⟩,h4⟩:=names i x hx
   exact⟨⟨b,off,h1,hP b h2,h3⟩,h4⟩
  ·obtain⟨⟨b,off,h1,h2,h3,h3'⟩,h4⟩:=exts i x hx
   exact⟨⟨b,off,h1,hP b h2,h3,h3'⟩,h4⟩
  ·obtain⟨b,off,h1,h2,h3⟩:=cells i x hx
   exact⟨b,off,h1,hP b h2,h3⟩

def Lies (w:World) (A:Option Addr) (xs:List Value):Prop:=∀j u,xs[j]?=some u→∃b off,A=some ⟨b,off,none⟩∧b<w.heap.size∧w.cell? ⟨b,off+j,none⟩=some u
def Copied (E:TypeId) (size n:Nat) (xs:List Value) (w:World) (e:Ending) (w':World):Prop:=
 (∃A c,e= .returned (.slice A n c)∧n≤c∧(A=none→n=0∧c=0)∧w'.ownsRow w.heap.size E size (.slice A n c) n xs)∧Below w.heap.size w w'
theorem own_facts {w:World} {B:Nat} {E:TypeId} {size n:Nat} {v:Value} {xs:List Value} (h:w.ownsRow B E size v n xs):∃A c,v= .slice A n c∧n≤c∧(A=none→n=0∧c=0):=by
 rcases h.2 with⟨rfl,rfl⟩ |⟨g,cap,cur,rfl,_,_,hle,_⟩
 ·exact⟨none,0,rfl,Nat.le_refl _,fun _=>⟨rfl,rfl⟩⟩
 ·exact⟨_,cap,rfl,hle,fun h=>by cases h⟩
theorem add_place (b off j:Nat):(⟨b,off,none⟩:Addr).add j=⟨b,off+j,none⟩:=by unfold Addr.add;split<;>simp_all
theorem Jno (A:Option Addr) (n c:Nat) (xs:List Value) (w:World) (hN:Lies w A xs) (hz:A=none→n=0∧c=0) (hl:n*16≤140737488355328) (hlen:xs.length=n*1) (hone:∀u∈xs,u.oneCell'=true):
  Calls prog 88 #[.slice A n c] w (Copied 9 1 n xs w):=by
 have hi0:(Tryz.prog.info? 9).map (fun i=>(i.zero,i.size,i.bytes))=some (some (.string ⟨#[]⟩),1,16):=by kernel_rfl
 obtain⟨i0,hi,hz0,hz1,hz2⟩:=info_parts hi0;rcases A with _ |ad
 ·obtain⟨rfl,rfl⟩:=hz rfl
  obtain rfl:xs=[]:=List.eq_nil_of_length_eq_zero (by omega);have heq0:=fun wx=>Lib.run_eql_slice_nil (P:=prog) wx 27 9 none 0 0 0 0 underlying27;clear hN hl hi0 hz0 hz1 hz2 hi;go_enter func88,ntmps88
  go_wp2_with fail
  go_ret
  exact⟨⟨none,0,rfl,Nat.le_refl _,fun _=>⟨rfl,rfl⟩,World.ownsRow_nil _ _ _ _⟩,Below.refl _ _⟩
 ·have heq:=fun wx=>Lib.run_eql_slice_nil (P:=prog) wx 27 9 (some ad) n c 0 0 underlying27
  have hnews:Hid (∀j u,xs[j]?=some u→(w.alloc (.cells #[] 9)).cell? (ad.add j)=some u):=hid fun j u hu=>by
   obtain⟨b,off,hA,hB,hc⟩:=hN j u hu;injection hA with hA;subst hA;rw [add_place];exact (((Below.refl w.heap.size w).alloc (Nat.le_refl _) (.cells #[] 9)).cell (p:=⟨b,off+j,none⟩) hB).trans hc
  have HOne:=hid hone;have HLen:=hid hlen;clear hN hi0 hone hlen hz;go_enter func88,ntmps88
  go_wp2_with (at_builtin;refine wpList_append_own _ rfl (.tmp 5) (.tmp 6) 27 rfl w.heap.size 9 i0 _ 1 16 underlying27 hi hz0 hz1 hz2 rfl (by omega) (.slice (some ⟨w.heap.size,0,none⟩) 0 0) 0 [] rfl (World.ownsRow_made w #[] 0 (Nat.le_refl _) (by decide) rfl) ad n c xs rfl HLen.out hnews.out HOne.out (by simp only [maxLen];omega) (by omega) (by simp) ?_;intro v4 w4 hown4 hgrow hnil4)
  rw [Nat.zero_add,List.nil_append] at hown4;obtain⟨A4,c4,rfl,h1,h2⟩:=own_facts hown4;have HO4:=hid hown4;have HB4:=hid (keep_grown (S:=w.heap.size) ((Below.refl w.heap.size w).alloc (Nat.le_refl _) (.cells #[] 9)) (World.ownsRow_made w #[] 0 (Nat.le_refl _) (by decide) rfl:(w.alloc (.cells #[] 9)).ownsRow w.heap.size 9 1 _ 0 []) hgrow (Nat.le_refl _) (Nat.le_refl _));clear hown4 hgrow hnil4;go_wp2_with fail
  go_ret
  exact⟨⟨A4,c4,rfl,h1,h2,HO4.out⟩,HB4.out⟩
theorem Jtj (A:Option Addr) (n c:Nat) (xs:List Value) (w:World) (hN:Lies w A xs) (hz:A=none→n=0∧c=0) (hl:n*24≤140737488355328) (hlen:xs.length=n*2) (hone:∀u∈xs,u.oneCell'=true):
  Calls prog 183 #[.slice A n c] w (Copied 131 2 n xs w):=by
 have hi0:(Tryz.prog.info? 131).map (fun i=>(i.zero,i.size,i.bytes))=some (some (.agg #[.int .i64 0,.string ⟨#[]⟩]),2,24):=by kernel_rfl
 obtain⟨i0,hi,hz0,hz1,hz2⟩:=info_parts hi0;rcases A with _ |ad
 ·obtain⟨rfl,rfl⟩:=hz rfl
  obtain rfl:xs=[]:=List.eq_nil_of_length_eq_zero (by omega);have heq0:=fun wx=>Lib.run_eql_slice_nil (P:=prog) wx 44 131 none 0 0 0 0 underlying44;clear hN hl hi0 hz0 hz1 hz2 hi;go_enter func183,ntmps183
  go_wp2_with fail
  go_ret
  exact⟨⟨none,0,rfl,Nat.le_refl _,fun _=>⟨rfl,rfl⟩,World.ownsRow_nil _ _ _ _⟩,Below.refl _ _⟩
 ·have heq:=fun wx=>Lib.run_eql_slice_nil (P:=prog) wx 44 131 (some ad) n c 0 0 underlying44
  have hnews:Hid (∀j u,xs[j]?=some u→(w.alloc (.cells #[] 131)).cell? (ad.add j)=some u):=hid fun j u hu=>by
   obtain⟨b,off,hA,hB,hc⟩:=hN j u hu;injection hA with hA;subst hA;rw [add_place];exact (((Below.refl w.heap.size w).alloc (Nat.le_refl _) (.cells #[] 131)).cell (p:=⟨b,off+j,none⟩) hB).trans hc
  have HOne:=hid hone;have HLen:=hid hlen;clear hN hi0 hone hlen hz;go_enter func183,ntmps183
  go_wp2_with (at_builtin;refine wpList_append_own _ rfl (.tmp 5) (.tmp 6) 44 rfl w.heap.size 131 i0 _ 2 24 underlying44 hi hz0 hz1 hz2 rfl (by omega) (.slice (some ⟨w.heap.size,0,none⟩) 0 0) 0 [] rfl (World.ownsRow_made w #[] 0 (Nat.le_refl _) (by decide) rfl) ad n c xs rfl HLen.out hnews.out HOne.out (by simp only [maxLen];omega) (by omega) (by simp) ?_;intro v4 w4 hown4 hgrow hnil4)
  rw [Nat.zero_add,List.nil_append] at hown4;obtain⟨A4,c4,rfl,h1,h2⟩:=own_facts hown4;have HO4:=hid hown4;have HB4:=hid (keep_grown (S:=w.heap.size) ((Below.refl w.heap.size w).alloc (Nat.le_refl _) (.cells #[] 131)) (World.ownsRow_made w #[] 0 (Nat.le_refl _) (by decide) rfl:(w.alloc (.cells #[] 131)).ownsRow w.heap.size 131 2 _ 0 []) hgrow (Nat.le_refl _) (Nat.le_refl _));clear hown4 hgrow hnil4;go_wp2_with fail
  go_ret
  exact⟨⟨A4,c4,rfl,h1,h2,HO4.out⟩,HB4.out⟩

theorem Jt9 {w:World} {A:Option Addr} {N:List ByteArray} (h:Txts w w.heap.size A N):Lies w A (N.map Value.string):=fun j u hu=>by
 rw [List.getElem?_map] at hu;rcases hx:N[j]? with _ |x
 ·rw [hx] at hu;cases hu
 ·rw [hx] at hu
  obtain rfl:Value.string x=u:=Option.some.inj hu;obtain⟨⟨b,off,hA,hB,hc⟩,_⟩:=h j x hx;exact⟨b,off,hA,hB,hc⟩
theorem Jep {L:List Ex} {j:Nat} {u:Value} (h:(exCells L)[j]?=some u):∃i x,L[i]?=some x∧((j=i*2∧u= .int .i64 x.O)∨(j=i*2+1∧u= .string x.D)):=by
 have hlt:j<L.length*2:=by
  have:=(List.getElem?_eq_some_iff.1 h).1;rwa [Jbx] at this
 obtain⟨x,hx⟩:∃x,L[j / 2]?=some x:=⟨_,List.getElem?_eq_getElem (by omega)⟩
 obtain⟨e0,e1⟩:=Jb7 hx;refine⟨j / 2,x,hx,?_⟩;rcases Nat.mod_two_eq_zero_or_one j with hm |hm
 ·have hj:j / 2*2=j:=by omega
  rw [hj,h] at e0;exact .inl ⟨hj.symm,Option.some.inj e0⟩
 ·have hj:j / 2*2+1=j:=by omega
  rw [hj,h] at e1;exact .inr ⟨hj.symm,Option.some.inj e1⟩
theorem Jti {w:World} {A:Option Addr} {L:List Ex} (h:Exts w w.heap.size A L):Lies w A (exCells L):=fun j u hu=>by
 obtain⟨i,x,hx,hc⟩:=Jep hu;obtain⟨⟨b,off,hA,hB,c0,c1⟩,_⟩:=h i x hx;rcases hc with⟨rfl,rfl⟩ |⟨rfl,rfl⟩
 ·exact⟨b,off,hA,hB,c0⟩
 ·exact⟨b,off,hA,hB,by rw [←Nat.add_assoc];exact c1⟩
def rowCells:List Nd→(Nat→Raw)→List Value
 |[],_=>[]
 |x::L,rs=>(rawCells x (rs 0)).toList++rowCells L (fun i=>rs (i+1))
theorem Jc8 (x:Nd) (r:Raw):(rawCells x r).toList.length=7:=rfl
theorem Jcy:∀(L:List Nd) (rs:Nat→Raw),(rowCells L rs).length=L.length*7
 |[],_=>rfl
 |x::L,rs=>by rw [rowCells,List.length_append,Jc8,Jcy L,List.length_cons];omega
theorem Ja2:∀{L:List Nd} {rs:Nat→Raw} {i:Nat} {x:Nd},L[i]?=some x→∀j v,(rawCells x (rs i))[j]?=some v→(rowCells L rs)[i*7+j]?=some v
 |[],_,i,x,h,_,_,_=>by simp at h
 |y::L,rs,0,x,h,j,v,hj=>by
  obtain rfl:y=x:=by simpa using h
  have hlt:j<7:=by
   have:=(Array.getElem?_eq_some_iff.1 hj).1;exact this
  rw [rowCells,Nat.zero_mul,Nat.zero_add,List.getElem?_append_left (by rw [Jc8];exact hlt),Array.getElem?_toList];exact hj
 |y::L,rs,i+1,x,h,j,v,hj=>by
  have:=Ja2 (L:=L) (rs:=fun i=>rs (i+1)) (i:=i) (x:=x) (by simpa using h) j v hj;rw [rowCells,List.getElem?_append_right (by rw [Jc8];omega),Jc8,show (i+1)*7+j - 7=i*7+j by omega];exact this
theorem Jg7 {L:List Nd} {rs:Nat→Raw} {j:Nat} {u:Value} (h:(rowCells L rs)[j]?=some u):∃i x k,L[i]?=some x∧j=i*7+k∧(rawCells x (rs i))[k]?=some u:=by
 have hlt:j<L.length*7:=by
  have:=(List.getElem?_eq_some_iff.1 h).1;rwa [Jcy] at this
 obtain⟨x,hx⟩:∃x,L[j / 7]?=some x:=⟨_,List.getElem?_eq_getElem (by omega)⟩
 have hk:j % 7<(rawCells x (rs (j / 7))).size:=Nat.mod_lt _ (by decide);have hj:=Ja2 (rs:=rs) hx (j % 7) _ (Array.getElem?_eq_getElem hk);rw [show j / 7*7+j % 7=j by omega,h] at hj;exact⟨j / 7,x,j % 7,hx,by omega,by rw [Array.getElem?_eq_getElem hk];exact hj.symm⟩
theorem Je8 (L:List Nd) (rs:Nat→Raw):∀u∈rowCells L rs,u.oneCell'=true:=fun u hu=>by
 obtain⟨j,hj⟩:=List.mem_iff_getElem?.1 hu;obtain⟨i,x,k,_,_,hk⟩:=Jg7 hj;have hlt:k<7:=(Array.getElem?_eq_some_iff.1 hk).1;have:k=0∨k=1∨k=2∨k=3∨k=4∨k=5∨k=6:=by omega
 rcases this with rfl |rfl |rfl |rfl |rfl |rfl |rfl<;>(obtain rfl:=(Option.some.inj hk).symm;rfl)
theorem Jk5 (L:List Ex):∀u∈exCells L,u.oneCell'=true:=fun u hu=>by
 obtain⟨j,hj⟩:=List.mem_iff_getElem?.1 hu;obtain⟨i,x,_,h⟩:=Jep hj;rcases h with⟨_,rfl⟩ |⟨_,rfl⟩<;>rfl
theorem Jkh (N:List ByteArray):∀u∈N.map Value.string,u.oneCell'=true:=fun u hu=>by
 obtain⟨x,_,rfl⟩:=List.mem_map.1 hu;rfl

def nd0:Nd:= .mk 0 false [] [] 0 [] ⟨#[]⟩
def raw0:Raw:=⟨none,0,none,0,none,0⟩
theorem TxtIn.keep {w w':World} {P P':Nat→Prop} {A:Option Addr} {Q:List ByteArray} (h:TxtIn w P A Q) (hk:∀b,P b→w'.heap[b]?=w.heap[b]?∧P' b):TxtIn w' P' A Q:=fun i x hx=>by
 obtain⟨⟨b,off,h1,h2,h3⟩,h4⟩:=h i x hx;exact⟨⟨b,off,h1,(hk b h2).2,(World.cell?_of_block (hk b h2).1).trans h3⟩,h4⟩
theorem ExtIn.keep {w w':World} {P P':Nat→Prop} {A:Option Addr} {L:List Ex} (h:ExtIn w P A L) (hk:∀b,P b→w'.heap[b]?=w.heap[b]?∧P' b):ExtIn w' P' A L:=fun i x hx=>by
 obtain⟨⟨b,off,h1,h2,h3,h3'⟩,h4⟩:=h i x hx;exact⟨⟨b,off,h1,(hk b h2).2,(World.cell?_of_block (hk b h2).1).trans h3,(World.cell?_of_block (hk b h2).1).trans h3'⟩,h4⟩

theorem own_cell {w:World} {B n c size:Nat} {E:TypeId} {A:Option Addr} {xs:List Value} (h:w.ownsRow B E size (.slice A n c) n xs) {j:Nat} {u:Value} (hj:xs[j]?=some u):
  ∃g cur,A=some ⟨g,0,none⟩∧B≤g∧g<w.heap.size∧w.heap[g]?=some (.cells cur E (0,0))∧w.cell? ⟨g,j,none⟩=some u:=by
 rcases h.2 with⟨_,h0⟩ |⟨g,cap,cur,hv,h1,h2,_,_,_,h6⟩
 ·have:=(List.getElem?_eq_some_iff.1 hj).1
  rw [h.1,h0,Nat.zero_mul] at this;omega
 ·injection hv with hA
  refine⟨g,cur,hA,h1,lt_of_some h2,h2,?_⟩;have hlt:=(List.getElem?_eq_some_iff.1 hj).1;rw [h.1] at hlt;rw [←h6,List.getElem?_take_of_lt hlt,Array.getElem?_toList] at hj;unfold World.cell?;rw [h2];simpa using hj
theorem Jwu {w:World} {B n c:Nat} {E:TypeId} {A:Option Addr} {N:List ByteArray} (h:w.ownsRow B E 1 (.slice A n c) n (N.map Value.string)) (hs:∀(i:Nat) (x:ByteArray),N[i]?=some x→x.size≤140737488355328):
  TxtIn w (fun b=>B≤b∧b<w.heap.size) A N:=fun i x hx=>by
 obtain⟨g,cur,h1,h2,h3,_,h5⟩:=own_cell h (j:=i) (u:= .string x) (by rw [List.getElem?_map,hx];rfl);exact⟨⟨g,0,h1,⟨h2,h3⟩,by rw [Nat.zero_add];exact h5⟩,hs i x hx⟩
theorem size_setCells (b:Nat):∀(vs:List Value) (o:Nat) (w:World),(w.setCells b o vs).heap.size=w.heap.size
 |[],_,_=>rfl
 |v::r,o,w=>by rw [World.setCells,size_setCells b r,World.size_setCell]
theorem Jbw (g:Nat) (T:TypeId):∀(vs:List Value) (o:Nat) (w:World) (cur:Array Value),w.heap[g]?=some (.cells cur T (0,0))→∃cur',(w.setCells g o vs).heap[g]?=some (.cells cur' T (0,0))
 |[],_,_,cur,h=>⟨cur,h⟩
 |v::r,o,w,cur,h=>by
  rw [World.setCells];exact Jbw g T r (o+1) _ _ (heap_setCell_same w g o cur T v h)

structure Kept (w wr:World) (n:Nd) (q:Raw) (g j:Nat):Prop where
 box:Box wr w.heap.size n q
 out:Box wr (w.heap.size+1) nd0 raw0
 below:Below w.heap.size w wr
 big:w.heap.size+1<g
 small:g≤wr.heap.size
 names:TxtIn wr (fun b=>w.heap.size+1<b∧b<g) q.An n.N
 exts:ExtIn wr (fun b=>w.heap.size+1<b∧b<g) q.Ae n.E
 row:∀i x,n.I[i]?=some x→q.Ai=some ⟨g,0,none⟩∧(∃cur,wr.heap[g]?=some (.cells cur 46 (0,0)))∧
  ∃rx,(i<j→NdIn wr (fun b=>g<b∧b<wr.heap.size) x rx)∧(j≤i→NdAt w w.heap.size x rx)∧∀k v,(rawCells x rx)[k]?=some v→wr.cell? ⟨g,i*7+k,none⟩=some v
 fit:Fit n q
theorem Kept.later {w wr w':World} {n:Nd} {q:Raw} {g j:Nat} (h:Kept w wr n q g j) (hb:Below wr.heap.size wr w'):Kept w w' n q g j:=by
 refine⟨h.box.below hb,h.out.below hb,h.below.trans (hb.mono h.below.size),h.big,Nat.le_trans h.small hb.size,?_,?_,?_,h.fit⟩
 ·exact h.names.keep fun b hk=>⟨hb.block b (Nat.lt_of_lt_of_le hk.2 h.small),hk⟩
 ·exact h.exts.keep fun b hk=>⟨hb.block b (Nat.lt_of_lt_of_le hk.2 h.small),hk⟩
 ·intro i x hx
  obtain⟨h1,⟨cur,h2⟩,rx,h3,h4,h5⟩:=h.row i x hx;have hg:=lt_of_some h2;exact⟨h1,⟨cur,(hb.block g hg).trans h2⟩,rx,fun hi=>(h3 hi).keep fun b hk=>⟨hb.block b hk.2,hk.1,Nat.lt_of_lt_of_le hk.2 hb.size⟩,h4,
    fun k v hk=>(hb.cell (p:=⟨g,i*7+k,none⟩) hg).trans (h5 k v hk)⟩
theorem Kept.store {w wr:World} {n x:Nd} {q rx:Raw} {g j:Nat} (h:Kept w wr n q g j) (hx:n.I[j]?=some x) (hn:NdIn wr (fun b=>g<b∧b<wr.heap.size) x rx):
  Kept w (wr.setCells g (j*7) (rawCells x rx).toList) n q g (j+1):=by
 obtain⟨_,⟨cur,hcur⟩,ry,_,_,hcell⟩:=h.row j x hx;have hg:=lt_of_some hcur;have hb1:=h.big;have oth:∀b,b<wr.heap.size→b≠g→(wr.setCells g (j*7) (rawCells x rx).toList).heap[b]?=wr.heap[b]?:=fun b h1 h2=>World.heap_setCells_other wr g _ _ h1 h2;have hbx:=h.box.lt;have hox:=h.out.lt;have hs:=size_setCells g (rawCells x rx).toList (j*7) wr;refine⟨(oth _ hbx (by omega)).trans h.box,(oth _ hox (by omega)).trans h.out,?_,h.big,by rw [hs];exact h.small,?_,?_,?_,h.fit⟩
 ·have hi:(∀vs o (w1:World),Below w.heap.size w w1→Below w.heap.size w (w1.setCells g o vs)):=by
   intro vs
   induction vs with
   |nil=>intro o w1 h1;exact h1
   |cons v vs ih=>intro o w1 h1;rw [World.setCells];exact ih _ _ (h1.setCell (p:=⟨g,o,none⟩) (by show w.heap.size≤g;omega) v)
  exact hi _ _ _ h.below
 ·exact h.names.keep fun b hk=>⟨oth b (by have:=h.small;omega) (by omega),hk⟩
 ·exact h.exts.keep fun b hk=>⟨oth b (by have:=h.small;omega) (by omega),hk⟩
 ·intro i y hy
  obtain⟨h1,_,ri,h3,h4,h5⟩:=h.row i y hy;refine⟨h1,Jbw g _ _ _ _ cur hcur,?_⟩;by_cases hij:i=j
  ·subst hij
   obtain rfl:x=y:=Option.some.inj (hx.symm.trans hy);refine⟨rx,fun _=>hn.keep fun b hk=>⟨oth b hk.2 (by omega),hk.1,by rw [hs];exact hk.2⟩,fun hle=>by omega,fun k v hk=>?_⟩;have hlt:k<(rawCells x rx).toList.length:=by rw [Array.length_toList];exact (Array.getElem?_eq_some_iff.1 hk).1
   rw [World.cell?_setCells_in g (rawCells x rx).toList (i*7) wr (fun k' hk'=>by
     have hk'':k'<(rawCells x ri).size:=hk';rw [h5 k' _ (Array.getElem?_eq_getElem (xs:=rawCells x ri) (i:=k') hk'')];rfl) k hlt,←Array.getElem?_toList.trans hk]
   exact (List.getElem?_eq_getElem hlt).symm
  ·refine⟨ri,fun hlt=>(h3 (by omega)).keep fun b hk=>⟨oth b hk.2 (by omega),hk.1,by rw [hs];exact hk.2⟩,fun hle=>h4 (by omega),fun k v hk=>?_⟩
   have hlt:k<7:=(Array.getElem?_eq_some_iff.1 hk).1;rw [World.cell?_setCells_out g (rawCells x rx).toList (j*7) wr ⟨g,i*7+k,none⟩ (fun _ _=>by
     show i*7+k<j*7∨j*7+7≤i*7+k;omega)]
   exact h5 k v hk
theorem Kept.done {w wr:World} {n:Nd} {q:Raw} {g j:Nat} (h:Kept w wr n q g j) (hj:n.I.length≤j):
  NdIn (wr.setCells (w.heap.size+1) 0 (rawCells n q).toList) (fun b=>w.heap.size≤b∧b<(wr.setCells (w.heap.size+1) 0 (rawCells n q).toList).heap.size) n q∧
   Below w.heap.size w (wr.setCells (w.heap.size+1) 0 (rawCells n q).toList):=by
 have hs:=size_setCells (w.heap.size+1) (rawCells n q).toList 0 wr;have hb1:=h.big;have hsm:=h.small;have oth:∀b,b<wr.heap.size→b≠w.heap.size+1→(wr.setCells (w.heap.size+1) 0 (rawCells n q).toList).heap[b]?=wr.heap[b]?:=fun b h1 h2=>World.heap_setCells_other wr _ _ _ h1 h2;have hrow:∀i x,n.I[i]?=some x→∃rx,NdIn wr (fun b=>g<b∧b<wr.heap.size) x rx∧q.Ai=some ⟨g,0,none⟩∧g<wr.heap.size∧∀k v,(rawCells x rx)[k]?=some v→wr.cell? ⟨g,i*7+k,none⟩=some v:=fun i x hx=>by
  obtain⟨h1,⟨cur,h2⟩,rx,h3,_,h5⟩:=h.row i x hx;have hlt:=(List.getElem?_eq_some_iff.1 hx).1;exact⟨rx,h3 (by omega),h1,lt_of_some h2,h5⟩
 have hch:∃rs:Nat→Raw,∀i x,n.I[i]?=some x→NdIn wr (fun b=>g<b∧b<wr.heap.size) x (rs i)∧q.Ai=some ⟨g,0,none⟩∧g<wr.heap.size∧∀k v,(rawCells x (rs i))[k]?=some v→wr.cell? ⟨g,i*7+k,none⟩=some v:=by
  have:∀i,∃rx:Raw,∀x,n.I[i]?=some x→NdIn wr (fun b=>g<b∧b<wr.heap.size) x rx∧q.Ai=some ⟨g,0,none⟩∧g<wr.heap.size∧∀k v,(rawCells x rx)[k]?=some v→wr.cell? ⟨g,i*7+k,none⟩=some v:=fun i=>by
   rcases hi:n.I[i]? with _ |x
   ·exact⟨raw0,fun x hx=>by cases hx⟩
   ·obtain⟨rx,hrx⟩:=hrow i x hi
    exact⟨rx,fun y hy=>by cases hy;exact hrx⟩
  exact⟨fun i=>(this i).choose,fun i=>(this i).choose_spec⟩
 have hbe:Below w.heap.size w (wr.setCells (w.heap.size+1) 0 (rawCells n q).toList):=by
  have hi:(∀vs o (w1:World),Below w.heap.size w w1→Below w.heap.size w (w1.setCells (w.heap.size+1) o vs)):=by
   intro vs
   induction vs with
   |nil=>intro o w1 h1;exact h1
   |cons v vs ih=>intro o w1 h1;rw [World.setCells];exact ih _ _ (h1.setCell (p:=⟨w.heap.size+1,o,none⟩) (by show w.heap.size≤w.heap.size+1;omega) v)
  exact hi _ _ _ h.below
 obtain⟨rs,hrs⟩:=hch;generalize wr.setCells (w.heap.size+1) 0 (rawCells n q).toList=w' at hs oth hbe ⊢;refine⟨.mk rs h.fit (h.names.keep fun b hk=>⟨oth b (by omega) (by omega),by omega,by rw [hs];omega⟩) (h.exts.keep fun b hk=>⟨oth b (by omega) (by omega),by omega,by rw [hs];omega⟩) (fun i x hx=>?_) (fun i x hx=>?_),hbe⟩
 ·obtain⟨_,h2,h3,h4⟩:=hrs i x hx
  refine⟨g,0,h2,⟨by omega,by rw [hs];omega⟩,fun k v hk=>?_⟩;have:=(World.cell?_of_block (a:=⟨g,i*7+k,none⟩) (oth g h3 (by omega))).trans (h4 k v hk);rw [show 0+i*7+k=i*7+k by omega];exact this
 ·exact (hrs i x hx).1.keep fun b hk=>⟨oth b hk.2 (by omega),by omega,by rw [hs];exact hk.2⟩
end Go.Proofs.YtekekhgjobahaaaGreatDoor.tre

namespace Go.Proofs.YtekekhgjobahaaaGreatDoor.tre
open Go.ChangeShapes Go.WideShapes Go.RowKit words ext name

instance:Inhabited Nd:=⟨nd0⟩
instance:Inhabited Raw:=⟨raw0⟩
theorem cellsNode:Tryz.prog.cellsOf 46=7:=by kernel_rfl
theorem bytesNode:Tryz.prog.bytesOf 46=112:=by kernel_rfl
theorem bytesStr:Tryz.prog.bytesOf 9=16:=by kernel_rfl
theorem cellsBool:Tryz.prog.cellsOf 4=1:=by kernel_rfl
theorem cellsStrs:Tryz.prog.cellsOf 27=1:=by kernel_rfl
theorem cellsNodes:Tryz.prog.cellsOf 22=1:=by kernel_rfl
theorem cellsExts:Tryz.prog.cellsOf 44=1:=by kernel_rfl
theorem seven {α:Type} {l:List α} (h:l.length=7):∃a b c d e f g,l=[a,b,c,d,e,f,g]:=by
 match l,h with
 |[a,b,c,d,e,f,g],_=>exact⟨a,b,c,d,e,f,g,rfl⟩
section
variable {H:Type} {enc:TypeId×Value→H} {W:World} {base:Nat} {spare:Nat→Bool} {held:Bool}
theorem Ja3 {t e:TypeId} (hu:Tryz.prog.underlying t=some (.slice e)) {fuel:Nat} {a0:Option Addr} {len cap:Nat} {x:DataW H×List MemPlace} (h:DataW.trod enc prog W base spare held fuel t [.slice a0 len cap]=some x) (hs:Sized t x.1):
  len*Tryz.prog.bytesOf e≤140737488355328∧len≤cap∧(a0=none→len=0∧cap=0):=by
 rcases DataW.trod_slice hu h with⟨hc,_⟩ |⟨a,l,c,elems,rest,n,_,hc,hx,_,hl,_,hlen,_⟩
 ·simp at hc
  obtain⟨rfl,rfl,rfl⟩:=hc;exact⟨by omega,Nat.le_refl _,fun _=>⟨rfl,rfl⟩⟩
 ·simp at hc
  obtain⟨rfl,rfl,rfl⟩:=hc;subst hx;have hw:=hs _ (by
    simp only [DataW.weights,hu];exact List.mem_cons_self ..)
  rw [List.length_map,List.length_map,hlen] at hw;have hr:=reachBytes_lt;have:len*Tryz.prog.bytesOf e≤(len+rest.length)*Tryz.prog.bytesOf e:=Nat.mul_le_mul_right _ (Nat.le_add_right _ _);exact⟨by omega,hl,fun h=>by cases h⟩
theorem Jes {s:ByteArray} {x:DataW H×List MemPlace} (hx:x.1= .lit (.string s.data.toList)) (hs:Sized 9 x.1):s.size≤140737488355328:=by
 have:=hs s.data.toList.length (by rw [hx];simp [DataW.weights]);rw [ext.size_list] at this;have hr:=reachBytes_lt;omega
theorem Jb2 {t e:TypeId} (hu:Tryz.prog.underlying t=some (.slice e)) {fuel:Nat} {a:Addr} {len cap:Nat} {x:DataW H×List MemPlace} (h:DataW.trod enc prog W base spare held fuel t [.slice (some a) len cap]=some x) (hs:Sized t x.1):
  ∃n,fuel=n+1∧∀i,i<len→∃cs d,W.cells? base (a.add (i*Tryz.prog.cellsOf e)) (Tryz.prog.cellsOf e)=some cs∧DataW.trod enc prog W base spare held n e cs=some d∧Sized e d.1:=by
 rcases DataW.trod_slice hu h with⟨hc,_⟩ |⟨a',l,c,elems,rest,n,hfu,hc,hx,_,_,_,hlen,hel,_⟩
 ·simp at hc
 ·simp at hc
  obtain⟨rfl,rfl,rfl⟩:=hc;subst hx;refine⟨n,hfu,fun i hi=>?_⟩;have key:=hel i hi;rw [List.getElem?_eq_getElem (by omega)] at key;obtain⟨cs,h1,h2⟩:=Option.bind_eq_some_iff.1 key;refine⟨cs,_,h1,h2,fun k hk=>hs k ?_⟩;simp only [DataW.weights,hu];exact List.mem_cons_of_mem _ (List.mem_append_left _ (Jau (List.mem_map.2 ⟨_,List.getElem_mem (by omega),rfl⟩) k hk))
theorem Jsm {fuel:Nat} {a0:Option Addr} {len cap:Nat} {x:DataW H×List MemPlace} (h:DataW.trod enc prog W base spare held fuel 27 [.slice a0 len cap]=some x) (hs:Sized 27 x.1):
  ∃Q:List ByteArray,Q.length=len∧Txts W W.heap.size a0 Q:=by
 rcases a0 with _ |a
 ·obtain⟨rfl,_⟩:=(Ja3 underlying27 h hs).2.2 rfl
  exact⟨[],rfl,fun i x hx=>by simp at hx⟩
 ·obtain⟨n,_,hel⟩:=Jb2 underlying27 h hs
  have each:∀i,i<len→∃y:ByteArray,y.size≤140737488355328∧W.cell? (a.add i)=some (.string y):=fun i hlt=>by
   obtain⟨cs,d,hcs,ht,hsd⟩:=hel i hlt;rw [cellsStr,Nat.mul_one] at hcs;obtain⟨s,rfl,hd,_⟩:=DataW.trod_string underlying9 ht;obtain⟨_,_,hat⟩:=World.cells?_some hcs;have h0:=hat 0 (by omega);have e:(a.add i).add 0=a.add i:=by simp [Addr.add]
   rw [e] at h0;exact⟨s,Jes (by rw [hd]) hsd,h0⟩
  obtain⟨f,hfl⟩:=Deep.choose_lt each;refine⟨(List.range len).map f,by simp,fun i x hx=>?_⟩;have hlt:i<len:=by
   have:=(List.getElem?_eq_some_iff.1 hx).1;simpa using this
  have hxe:x=f i:=by
   rw [List.getElem?_map,List.getElem?_range hlt] at hx;simpa using hx.symm
  subst hxe;obtain⟨b,off,spot⟩:=a;have h0:=(hfl 0 (by omega)).2;have hspot:spot=none:=by simpa [Addr.add] using World.cell?_spot h0
  subst hspot;have hcell:=(hfl i hlt).2;rw [add_plain] at hcell;exact⟨⟨b,off,rfl,World.block_lt_of_cell? W _ hcell,hcell⟩,(hfl i hlt).1⟩
theorem Jfm {t e:TypeId} (hu:Tryz.prog.underlying t=some (.slice e)) {fuel:Nat} {c:Value} {x:DataW H×List MemPlace} (h:DataW.trod enc prog W base spare held fuel t [c]=some x):∃a len cap,c= .slice a len cap:=by
 rcases DataW.trod_slice hu h with⟨hc,_⟩ |⟨a,l,c',_,_,_,_,hc,_⟩
 ·exact⟨_,_,_,by simpa using hc⟩
 ·exact⟨_,_,_,by simpa using hc⟩
theorem Jw3:∀(fuel:Nat) (cs:List Value) (x:DataW H×List MemPlace),DataW.trod enc prog W base spare held fuel 46 cs=some x→Sized 46 x.1→∃n r,cs=(rawCells n r).toList∧NdAt W W.heap.size n r:=by
 intro fuel
 induction fuel using Nat.strongRecOn with
 |ind fuel ih=>
  intro cs x h hs;obtain⟨xs,m,hfu,hxe,hlen,hxl,hf⟩:=DataW.trod_struct underlying46 h;rw [cellsNode] at hlen;obtain⟨c0,c1,c2,c3,c4,c5,c6,rfl⟩:=seven hlen;obtain⟨x0,x1,x2,x3,x4,x5,x6,rfl⟩:=seven hxl;have sz:∀(j:Nat) (t:TypeId) (d:DataW H),([3,4,27,22,3,44,9]:List TypeId)[j]?=some t→([x0.1,x1.1,x2.1,x3.1,x4.1,x5.1,x6.1]:List (DataW H))[j]?=some d→Sized t d:=fun j t d ht hd k hk=>hs k (by
    rw [hxe];simp only [DataW.weights,underlying46];exact DataW.weights_mem_each (j:=j) ht hd k hk)
  have g0:DataW.trod enc prog W base spare held m 3 (([c0,c1,c2,c3,c4,c5,c6].drop 0).take (Tryz.prog.cellsOf 3))=some x0:=hf 0 _ rfl;have g1:DataW.trod enc prog W base spare held m 4 (([c0,c1,c2,c3,c4,c5,c6].drop 1).take (Tryz.prog.cellsOf 4))=some x1:=hf 1 _ rfl;have g2:DataW.trod enc prog W base spare held m 27 (([c0,c1,c2,c3,c4,c5,c6].drop 2).take (Tryz.prog.cellsOf 27))=some x2:=hf 2 _ rfl;have g3:DataW.trod enc prog W base spare held m 22 (([c0,c1,c2,c3,c4,c5,c6].drop 3).take (Tryz.prog.cellsOf 22))=some x3:=hf 3 _ rfl;have g4:DataW.trod enc prog W base spare held m 3 (([c0,c1,c2,c3,c4,c5,c6].drop 4).take (Tryz.prog.cellsOf 3))=some x4:=hf 4 _ rfl;have g5:DataW.trod enc prog W base spare held m 44 (([c0,c1,c2,c3,c4,c5,c6].drop 5).take (Tryz.prog.cellsOf 44))=some x5:=hf 5 _ rfl;have g6:DataW.trod enc prog W base spare held m 9 (([c0,c1,c2,c3,c4,c5,c6].drop 6).take (Tryz.prog.cellsOf 9))=some x6:=hf 6 _ rfl;rw [cellsInt] at g0 g4;rw [cellsBool] at g1;rw [cellsStrs] at g2;rw [cellsNodes] at g3;rw [cellsExts] at g5;rw [cellsStr] at g6;obtain⟨K,e0,_,wK⟩:=DataW.trod_int underlying3 (show DataW.trod enc prog W base spare held m 3 [c0]=some x0 from g0);obtain⟨O,e1,_⟩:=DataW.trod_bool underlying4 (show DataW.trod enc prog W base spare held m 4 [c1]=some x1 from g1);obtain⟨An,ln,cn,rfl⟩:=Jfm underlying27 (show DataW.trod enc prog W base spare held m 27 [c2]=some x2 from g2);obtain⟨Ai,li,ci,rfl⟩:=Jfm underlying22 (show DataW.trod enc prog W base spare held m 22 [c3]=some x3 from g3);obtain⟨S,e4,_,wS⟩:=DataW.trod_int underlying3 (show DataW.trod enc prog W base spare held m 3 [c4]=some x4 from g4);obtain⟨Ae,le,ce,rfl⟩:=Jfm underlying44 (show DataW.trod enc prog W base spare held m 44 [c5]=some x5 from g5);obtain⟨T,e6,e6',_⟩:=DataW.trod_string underlying9 (show DataW.trod enc prog W base spare held m 9 [c6]=some x6 from g6);have g2':DataW.trod enc prog W base spare held m 27 [.slice An ln cn]=some x2:=g2;have g3':DataW.trod enc prog W base spare held m 22 [.slice Ai li ci]=some x3:=g3;have g5':DataW.trod enc prog W base spare held m 44 [.slice Ae le ce]=some x5:=g5;have s2:=sz 2 _ _ rfl rfl;have s3:=sz 3 _ _ rfl rfl;have s5:=sz 5 _ _ rfl rfl;have s6:=sz 6 _ _ rfl rfl;obtain⟨N,rfl,hN⟩:=Jsm g2' s2;obtain⟨E,rfl,hE,_⟩:=Jw9 g5' s5;obtain⟨n1,n2,n3⟩:=Ja3 underlying27 g2' s2;obtain⟨i1,i2,i3⟩:=Ja3 underlying22 g3' s3;obtain⟨p1,p2,p3⟩:=Ja3 underlying44 g5' s5;rw [bytesStr] at n1;rw [bytesNode] at i1;rw [bytesExt] at p1;have hT:T.size≤140737488355328:=Jes (by rw [e6']) s6;have hKb:=int_bounds wK;have hSb:=int_bounds wS;obtain⟨I,hIl,rs,hcell,hit⟩:∃I:List Nd,I.length=li∧∃rs:Nat→Raw,(∀(i:Nat) (x:Nd),I[i]?=some x→∃b off,Ai=some ⟨b,off,none⟩∧b<W.heap.size∧∀j v,(rawCells x (rs i))[j]?=some v→W.cell? ⟨b,off+i*7+j,none⟩=some v)∧∀(i:Nat) (x:Nd),I[i]?=some x→NdAt W W.heap.size x (rs i):=by
   rcases Ai with _ |a
   ·obtain⟨rfl,_⟩:=i3 rfl
    exact⟨[],rfl,fun _=>raw0,fun i x hx=>by simp at hx,fun i x hx=>by simp at hx⟩
   ·obtain⟨k,hk,hel⟩:=Jb2 underlying22 g3' s3
    have each:∀i,i<li→∃y:Nd×Raw,NdAt W W.heap.size y.1 y.2∧∀j v,(rawCells y.1 y.2)[j]?=some v→W.cell? ((a.add (i*7)).add j)=some v:=fun i hlt=>by
     obtain⟨cs,d,hcs,ht,hsd⟩:=hel i hlt;rw [cellsNode] at hcs;obtain⟨y,ry,rfl,hy⟩:=ih k (by omega) cs d ht hsd;obtain⟨_,_,hat⟩:=World.cells?_some hcs;exact⟨(y,ry),hy,fun j v hj=>(hat j (by have:=(Array.getElem?_eq_some_iff.1 hj).1;exact this)).trans (by rw [Array.getElem?_toList];exact hj)⟩
    obtain⟨f,hfl⟩:=Deep.choose_lt each;have at_:∀(i:Nat) (x:Nd),((List.range li).map fun i=>(f i).1)[i]?=some x→i<li∧x=(f i).1:=fun i x hx=>by
     have hlt:i<li:=by
      have:=(List.getElem?_eq_some_iff.1 hx).1;simpa using this
     rw [List.getElem?_map,List.getElem?_range hlt] at hx;exact⟨hlt,by simpa using hx.symm⟩
    refine⟨(List.range li).map fun i=>(f i).1,by simp,fun i=>(f i).2,fun i x hx=>?_,fun i x hx=>?_⟩
    ·obtain⟨hlt,rfl⟩:=at_ i x hx
     obtain⟨b,off,spot⟩:=a;have h0:=(hfl 0 (by omega)).2 0 _ rfl;have hspot:spot=none:=by simpa [Addr.add] using World.cell?_spot h0
     subst hspot;obtain⟨_,hc⟩:=hfl i hlt;simp only [add_plain] at hc;exact⟨b,off,rfl,World.block_lt_of_cell? W _ (hc 0 _ rfl),hc⟩
    ·obtain⟨hlt,rfl⟩:=at_ i x hx
     exact (hfl i hlt).1
  subst hIl;refine⟨.mk K O N I S E T,⟨An,cn,Ai,ci,Ae,ce⟩,by simp_all [rawCells,Nd.K,Nd.O,Nd.N,Nd.I,Nd.S,Nd.E,Nd.T],.mk rs ⟨hKb.1,hKb.2,hSb.1,hSb.2,hT,n1,i1,p1,n2,i2,p2,n3,i3,p3⟩ hN hE hcell hit⟩
end
end Go.Proofs.YtekekhgjobahaaaGreatDoor.tre

namespace Go.Proofs.YtekekhgjobahaaaGreatDoor.tre
open Go.RowKit words ext name

def Own (E:TypeId) (size n:Nat) (xs:List Value) (w:World) (e:Ending) (w':World):Prop:=
 ∃A c,e= .returned (.slice A n c)∧n≤c∧(A=none→n=0∧c=0)∧w'.ownsRow w.heap.size E size (.slice A n c) n xs∧Below w.heap.size w w'
theorem Jvr {E:TypeId} {size n:Nat} {xs:List Value} {w w':World} {e:Ending} (h:Copied E size n xs w e w'):Own E size n xs w e w':=by
 obtain⟨⟨A,c,h1,h2,h3,h4⟩,h5⟩:=h;exact⟨A,c,h1,h2,h3,h4,h5⟩
theorem Below.lies {w w':World} {A:Option Addr} {xs:List Value} (h:Lies w A xs) (hb:Below w.heap.size w w'):Lies w' A xs:=fun j u hu=>by
 obtain⟨b,off,h1,h2,h3⟩:=h j u hu;exact⟨b,off,h1,Nat.lt_of_lt_of_le h2 hb.size,(hb.cell (p:=⟨b,off+j,none⟩) h2).trans h3⟩
theorem Box.set {w:World} {g:Nat} {n:Nd} {r:Raw} (h:Box w g n r) (i:Nat) (v:Value) (r':Raw) (he:(rawCells n r).setIfInBounds i v=rawCells n r'):Box (w.setCell ⟨g,i,none⟩ v) g n r':=by
 unfold Box;rw [←he];exact heap_setCell_same w g i _ _ v h
theorem Box.far {w:World} {g:Nat} {n:Nd} {r:Raw} (h:Box w g n r) (p:Addr) (v:Value) (hne:g≠p.block):Box (w.setCell p v) g n r:=
 (heap_setCell_other w p g v hne).trans h
theorem Box.over {w:World} {g:Nat} {n m:Nd} {r q:Raw} (h:Box w g n r):Box (w.setCells g 0 (rawCells m q).toList) g m q:=by
 have h0:=heap_setCell_same w g 0 _ _ (.int .i64 m.K) h;have h1:=heap_setCell_same _ g 1 _ _ (.bool m.O) h0;have h2:=heap_setCell_same _ g 2 _ _ (.slice q.An m.N.length q.cn) h1;have h3:=heap_setCell_same _ g 3 _ _ (.slice q.Ai m.I.length q.ci) h2;have h4:=heap_setCell_same _ g 4 _ _ (.int .i64 m.S) h3;have h5:=heap_setCell_same _ g 5 _ _ (.slice q.Ae m.E.length q.ce) h4;have h6:=heap_setCell_same _ g 6 _ _ (.string m.T) h5;have he:w.setCells g 0 (rawCells m q).toList=((((((w.setCell ⟨g,0,none⟩ (.int .i64 m.K)).setCell ⟨g,1,none⟩ (.bool m.O)).setCell ⟨g,2,none⟩ (.slice q.An m.N.length q.cn)).setCell ⟨g,3,none⟩ (.slice q.Ai m.I.length q.ci)).setCell ⟨g,4,none⟩ (.int .i64 m.S)).setCell ⟨g,5,none⟩ (.slice q.Ae m.E.length q.ce)).setCell ⟨g,6,none⟩ (.string m.T):=by
  unfold rawCells;simp only [World.setCells,Nat.reduceAdd,Nat.zero_add]
 unfold Box;rw [he,h6];unfold rawCells;simp
theorem Kept.start {w w3 W3:World} {n:Nd} {q:Raw} {A:Option Addr} {c:Nat} {rs:Nat→Raw} {w2:World}
  (hbox:Box W3 w.heap.size n q) (hout:Box W3 (w.heap.size+1) nd0 raw0) (hb:Below w.heap.size w W3) (hsz:w.heap.size+1<w2.heap.size) (hle:w2.heap.size≤w3.heap.size)
  (hW:W3=w3.setCell ⟨w.heap.size,3,none⟩ (.slice A n.I.length c)) (hq:q.Ai=A)
  (hnames:TxtIn W3 (fun b=>w.heap.size+1<b∧b<w2.heap.size) q.An n.N) (hexts:ExtIn W3 (fun b=>w.heap.size+1<b∧b<w2.heap.size) q.Ae n.E)
  (hown:w3.ownsRow w2.heap.size 46 7 (.slice A n.I.length c) n.I.length (rowCells n.I rs)) (hit:∀i x,n.I[i]?=some x→NdAt w w.heap.size x (rs i)) (hfit:Fit n q):
  ∃g,Kept w W3 n q g 0:=by
 have hs:W3.heap.size=w3.heap.size:=by rw [hW,World.size_setCell]
 have oth:∀b,b≠w.heap.size→W3.heap[b]?=w3.heap[b]?:=fun b hb=>by rw [hW];exact heap_setCell_other w3 _ b _ hb
 rcases hown.2 with⟨_,h0⟩ |⟨g,cap,cur,hv,h1,h2,_,_,_,_⟩
 ·exact⟨w2.heap.size,hbox,hout,hb,hsz,by omega,hnames,hexts,fun i x hx=>by have:=(List.getElem?_eq_some_iff.1 hx).1;omega,hfit⟩
 ·injection hv with hA
  have hg:=lt_of_some h2;refine⟨g,hbox,hout,hb,by omega,by omega,hnames.keep fun b hk=>⟨rfl,hk.1,by omega⟩,hexts.keep fun b hk=>⟨rfl,hk.1,by omega⟩,fun i x hx=>?_,hfit⟩;refine⟨hq.trans hA,⟨cur,(oth g (by omega)).trans h2⟩,rs i,fun h=>by omega,fun _=>hit i x hx,fun k v hk=>?_⟩;obtain⟨g',cur',h1',_,_,h2',h3'⟩:=own_cell hown (Ja2 (rs:=rs) hx k v hk);rw [hA] at h1';injection h1' with h1';injection h1' with h1';subst h1';exact (World.cell?_of_block (a:=⟨g,i*7+k,none⟩) (oth g (by omega))).trans h3'


def Asc (N:List ByteArray):Prop:=∀(i j:Nat) (x y:ByteArray),i<j→N[i]?=some x→N[j]?=some y→lessB x y=true
theorem Jdn {a b c:ByteArray} (h1:lessB a b=true) (h2:lessB b c=true):lessB a c=true:=Jcz h1 h2
theorem Jc4 (a:ByteArray):lessB a a=false:=Jdi _
theorem Jfh:∀{N:List ByteArray} {p:ByteArray},riseFrom (some p) N=true→∀(j:Nat) (y:ByteArray),N[j]?=some y→lessB p y=true
 |[],_,_,j,y,h=>by simp at h
 |s::L,p,h,0,y,hy=>by
  obtain rfl:s=y:=by simpa using hy
  rw [Jaz,Bool.and_eq_true,Bool.and_eq_true] at h;exact h.1.2
 |s::L,p,h,j+1,y,hy=>by
  rw [Jaz,Bool.and_eq_true,Bool.and_eq_true] at h;exact Jdn h.1.2 (Jfh h.2 j y (by simpa using hy))
theorem Jfg:∀{N:List ByteArray} {p:Option ByteArray},riseFrom p N=true→Asc N
 |[],_,_=>fun i j x y _ h=>by simp at h
 |s::L,p,h=>fun i j x y hij hx hy=>by
  rw [Jaz,Bool.and_eq_true] at h;rcases j with _ |j
  ·omega
  rcases i with _ |i
  ·obtain rfl:s=x:=by simpa using hx
   exact Jfh h.2 j y (by simpa using hy)
  ·exact Jfg h.2 i j x y (by omega) (by simpa using hx) (by simpa using hy)
theorem Jsi {N:List ByteArray} (h:riseB N=true):Asc N:=Jfg h
theorem Asc.one {N:List ByteArray} (h:Asc N) {i j:Nat} {s:ByteArray} (hi:N[i]?=some s) (hj:N[j]?=some s):i=j:=by
 rcases Nat.lt_trichotomy i j with hl |hl |hl
 ·have:=h i j s s hl hi hj
  rw [Jc4] at this;cases this
 ·exact hl
 ·have:=h j i s s hl hj hi
  rw [Jc4] at this;cases this

def Hit (N:List ByteArray) (s:ByteArray) (w:World) (e:Ending) (w':World):Prop:=
 ((∃i:Nat,e= .returned (.tuple #[.int .i64 i,.bool true])∧N[i]?=some s)∨(∃i:Nat,e= .returned (.tuple #[.int .i64 i,.bool false])∧∀j:Nat,N[j]?≠some s))∧w=w'

theorem Jvx (s:ByteArray) (w:World):Calls prog 337 #[.string s] w fun e w'=>e= .returned (.bool false)∧w=w':=by
 go_enter func337,ntmps337
 go_wp2_with fail
 go_ret
 simp
theorem Jx7 (s:ByteArray) (w:World):Calls prog 325 #[.string s] w fun e w'=>e= .returned (.bool false)∧w=w':=by
 go_enter func325,ntmps325
 go_wp2_with fail
 go_ret
 simp
theorem Jvj (a b:ByteArray) (w:World):Calls prog 324 #[.string a,.string b] w fun e w'=>e= .returned (.bool (lessB a b))∧w=w':=by
 go_enter func324,ntmps324
 go_wp2_with fail
 refine (Jvx a _).mono ?_;rintro e w' ⟨rfl,rfl⟩;go_wp2_with fail
 go_ret
 exact⟨Jac (by unfold lessB;simp),rfl⟩
theorem Jpb (A:Option Addr) (cap:Nat) (N:List ByteArray) (s:ByteArray) (w:World) (hI:Txts w w.heap.size A N) (hlen:N.length≤140737488355328) (hasc:Asc N):
  Calls prog 313 #[.slice A N.length cap,.string s] w (Hit N s w):=by
 have HI:=hid hI;have HA:=hid hasc;clear hI hasc;go_enter func313,ntmps313
 go_wp2_with fail
 go_loopg [7,8] N.length (fun g s7 s8 wr=>∃lo hi:Nat,s7= .int .i64 lo∧s8= .int .i64 hi∧lo≤hi∧hi≤N.length∧hi - lo≤g∧(∀(j:Nat) (y:ByteArray),j<lo→N[j]?=some y→lessB y s=true)∧(∀(j:Nat) (y:ByteArray),hi≤j→N[j]?=some y→lessB y s=false)∧w=wr)
 case atStart=>exact⟨0,N.length,rfl,rfl,Nat.zero_le _,Nat.le_refl _,by omega,fun j y hj=>absurd hj (Nat.not_lt_zero _),fun j y hj hy=>absurd (List.getElem?_eq_some_iff.1 hy).1 (by omega),rfl⟩
 case round=>
  obtain⟨lo,hi,rfl,rfl,hlh,hin,hg,hlo,hhi,rfl⟩:=hrel;have HLO:=hid hlo;have HHI:=hid hhi;clear hlo hhi;by_cases hlt:lo<hi
  ·obtain⟨x,hx⟩:∃x,N[(lo+hi) / 2]?=some x:=⟨_,List.getElem?_eq_getElem (by omega)⟩
   obtain⟨⟨b,off,hA,hB,c0⟩,_⟩:=HI.out _ _ hx;have HX:=hid hx;have em:((lo:Int)+(hi:Int)) / 2=(((lo+hi) / 2:Nat):Int):=by omega
   have hm1:lo≤(lo+hi) / 2:=by omega
   have hm2:(lo+hi) / 2<hi:=by omega
   have i0:(0:Int)≤(((lo+hi) / 2:Nat):Int):=by omega
   have i1:(((lo+hi) / 2:Nat):Int)<(N.length:Int):=by omega
   have EM:=hid em;obtain⟨r,hr⟩:=words.nm (lessB x s);have HC:=hid (Jvj x s w);rw [←hr] at HC;have HR:=hid hr;subst hA;clear hx em hr;cases r
   ·go_wp2_with fail
    refine HC.out.mono ?_;rintro e w2 ⟨rfl,rfl⟩;go_wp2_with fail
    go_roundg ((lo+hi) / 2 - lo)
    case measure=>omega
    case rel=>
     refine⟨lo,(lo+hi) / 2,rfl,by rw [EM.out],by omega,by omega,Nat.le_refl _,HLO.out,fun j y hj hy=>?_,rfl⟩;by_cases hjm:j=(lo+hi) / 2
     ·subst hjm
      rw [HX.out] at hy;injection hy with e;subst e;exact HR.out.symm
     ·have h1:=HA.out _ _ _ _ (show (lo+hi) / 2<j by omega) HX.out hy
      rcases h2:lessB y s with _ |_
      ·rfl
      ·have:=Jdn h1 h2
       rw [←HR.out] at this;cases this
   ·go_wp2_with fail
    refine HC.out.mono ?_;rintro e w2 ⟨rfl,rfl⟩;go_wp2_with fail
    go_roundg (hi - ((lo+hi) / 2+1))
    case measure=>omega
    case rel=>
     refine⟨(lo+hi) / 2+1,hi,by rw [EM.out];go_num,rfl,by omega,hin,Nat.le_refl _,fun j y hj hy=>?_,HHI.out,rfl⟩;by_cases hjm:j=(lo+hi) / 2
     ·subst hjm
      rw [HX.out] at hy;injection hy with e;subst e;exact HR.out.symm
     ·have h1:=HA.out _ _ _ _ (show j<(lo+hi) / 2 by omega) hy HX.out
      exact Jdn h1 HR.out.symm
  ·obtain rfl:lo=hi:=by omega
   by_cases hn:lo<N.length
   ·obtain⟨x,hx⟩:∃x,N[lo]?=some x:=⟨_,List.getElem?_eq_getElem hn⟩
    obtain⟨⟨b,off,hA,hB,c0⟩,_⟩:=HI.out _ _ hx;have i0:(0:Int)≤(lo:Int):=by omega
    have i1:(lo:Int)<(N.length:Int):=by omega
    subst hA;by_cases he:x=s
    ·have g4:(x.toList==s.toList)=true:=by rw [he];simp
     have HF:=hid (show N[lo]?=some s by rw [hx,he]);clear hx he;go_wp2_with fail
     go_ret2
     exact⟨.inl ⟨lo,rfl,HF.out⟩,rfl⟩
    ·have g4:(x.toList==s.toList)=false:=by simpa using Jq6 he
     have HF:Hid (∀j:Nat,N[j]?≠some s):=hid fun j hj=>by
      rcases Nat.lt_trichotomy j lo with hl |hl |hl
      ·have:=HLO.out j s hl hj
       rw [Jc4] at this;cases this
      ·subst hl
       rw [hx] at hj;exact he (Option.some.inj hj)
      ·have h1:=HA.out _ _ _ _ hl hx hj
       rw [HHI.out lo x (Nat.le_refl _) hx] at h1;cases h1
     clear hx he;go_wp2_with fail
     refine (Jx7 x _).mono ?_;rintro e w2 ⟨rfl,rfl⟩;go_wp2_with fail
     go_ret2
     exact⟨.inr ⟨lo,rfl,HF.out⟩,rfl⟩
   ·have HF:Hid (∀j:Nat,N[j]?≠some s):=hid fun j hj=>by
     have:=HLO.out j s (by have:=(List.getElem?_eq_some_iff.1 hj).1;omega) hj;rw [Jc4] at this;cases this
    go_wp2_with fail
    go_ret2
    exact⟨.inr ⟨lo,rfl,HF.out⟩,rfl⟩


theorem below_setCells {w:World} {B g:Nat} (hg:B≤g):∀(vs:List Value) (o:Nat) (w1:World),Below B w w1→Below B w (w1.setCells g o vs)
 |[],_,_,h=>h
 |v::vs,o,w1,h=>by
  rw [World.setCells];exact below_setCells hg vs (o+1) _ (h.setCell (p:=⟨g,o,none⟩) hg v)

end Go.Proofs.YtekekhgjobahaaaGreatDoor.tre
