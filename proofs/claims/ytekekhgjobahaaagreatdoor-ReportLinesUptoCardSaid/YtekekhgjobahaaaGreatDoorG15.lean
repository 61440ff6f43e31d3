import Derived.Test.YtekekhgjobahaaaGreatDoorG0
import Derived.WalkSpells
import Derived.WalkLawsBesides
import Derived.BigQuiet
import Derived.Lib.Strings
set_option maxRecDepth 100000
namespace Go.Proofs.YtekekhgjobahaaaGreatDoor.ext

structure Ex where
 O:Int
 D:ByteArray
instance:Inhabited Ex:=⟨⟨0,⟨#[]⟩⟩⟩

def fitOne (size e:Int) (x:Ex):Bool:=decide (1≤x.D.size∧e≤x.O∧x.O+(x.D.size:Int)≤size)
def rightFrom (size:Int):Int→List Ex→Bool
 |_,[]=>true
 |e,x::L=>fitOne size e x&&rightFrom size (x.O+(x.D.size:Int)) L
def rightB (size:Int) (L:List Ex):Bool:=decide (0≤size∧size≤1048576)&&rightFrom size 0 L
def Cov (x:Ex) (p:Int):Prop:=x.O≤p∧p<x.O+(x.D.size:Int)
instance (x:Ex) (p:Int):Decidable (Cov x p):=by unfold Cov;exact inferInstance
def byteOf (x:Ex) (p:Int):UInt8:=x.D.data.toList.getD (p - x.O).toNat 0
def atB:List Ex→Int→UInt8
 |[],_=>0
 |x::L,p=>if Cov x p then byteOf x p else atB L p
def readL (L:List Ex) (off:Int) (m:Nat):List UInt8:=(List.range m).map fun i:Nat=>atB L (off+(i:Int))
def countOf (size off n:Int):Nat:=if off<0 then 0 else (min n (size - off)).toNat
def readB (size:Int) (L:List Ex) (off n:Int):List UInt8:=readL L off (countOf size off n)

theorem drop_at {α:Type} {L:List α} {k:Nat} {x:α} (h:L[k]?=some x):L.drop k=x::L.drop (k+1):=by
 obtain⟨hk,rfl⟩:=List.getElem?_eq_some_iff.1 h;exact List.drop_eq_getElem_cons hk
theorem take_at {α:Type} {L:List α} {k:Nat} {x:α} (h:L[k]?=some x):L.take (k+1)=L.take k++[x]:=by
 obtain⟨hk,rfl⟩:=List.getElem?_eq_some_iff.1 h;exact List.take_succ_eq_append_getElem hk

theorem Ja0 (size e:Int) (x:Ex) (L:List Ex):rightFrom size e (x::L)=(fitOne size e x&&rightFrom size (x.O+(x.D.size:Int)) L):=rfl
theorem Jhp {size e:Int} {x:Ex} (h1:1≤x.D.size) (h2:e≤x.O) (h3:x.O+(x.D.size:Int)≤size):fitOne size e x=true:=decide_eq_true ⟨h1,h2,h3⟩
theorem Jiz {size e:Int} {x:Ex} (h:¬(1≤x.D.size∧e≤x.O∧x.O+(x.D.size:Int)≤size)):fitOne size e x=false:=decide_eq_false h

theorem Jb5 (size:Int):∀(L:List Ex) (e:Int),rightFrom size e L=true↔
  (∀x∈L,1≤x.D.size∧e≤x.O∧x.O+(x.D.size:Int)≤size)∧L.Pairwise fun x y=>x.O+(x.D.size:Int)≤y.O
 |[],e=>by simp [rightFrom]
 |x::L,e=>by
  rw [Ja0,Bool.and_eq_true,Jb5 size L,List.pairwise_cons];unfold fitOne;rw [decide_eq_true_iff];constructor
  ·rintro⟨⟨h1,h2,h3⟩,h4,h5⟩
   refine⟨fun y hy=>?_,fun y hy=>(h4 y hy).2.1,h5⟩;rcases List.mem_cons.1 hy with rfl |hy
   ·exact⟨h1,h2,h3⟩
   ·have:=h4 y hy
    exact⟨this.1,by omega,this.2.2⟩
  ·rintro⟨h1,h2,h3⟩
   refine⟨h1 x (List.mem_cons_self ..),fun y hy=>⟨(h1 y (List.mem_cons_of_mem _ hy)).1,h2 y hy,(h1 y (List.mem_cons_of_mem _ hy)).2.2⟩,h3⟩
theorem Jhl {size:Int} {L:List Ex}:rightB size L=true↔(0≤size∧size≤1048576)∧
  (∀x∈L,1≤x.D.size∧0≤x.O∧x.O+(x.D.size:Int)≤size)∧L.Pairwise fun x y=>x.O+(x.D.size:Int)≤y.O:=by
 unfold rightB;rw [Bool.and_eq_true,decide_eq_true_iff,Jb5]

theorem Jcp (x:Ex) (L:List Ex) (p:Int):atB (x::L) p=if Cov x p then byteOf x p else atB L p:=rfl
theorem Jd8:∀{L:List Ex} {p:Int},(∀x∈L,¬Cov x p)→atB L p=0
 |[],_,_=>rfl
 |x::L,p,h=>by
  rw [Jcp,if_neg (h x (List.mem_cons_self ..))];exact Jd8 fun y hy=>h y (List.mem_cons_of_mem _ hy)
theorem Jav:∀{L M:List Ex} {p:Int},(∀x∈M,¬Cov x p)→atB (L++M) p=atB L p
 |[],M,p,h=>Jd8 h
 |x::L,M,p,h=>by
  rw [List.cons_append,Jcp,Jcp,Jav h]
theorem Jba:∀{L M:List Ex} {p:Int},(∀x∈L,¬Cov x p)→atB (L++M) p=atB M p
 |[],_,_,_=>rfl
 |x::L,M,p,h=>by
  rw [List.cons_append,Jcp,if_neg (h x (List.mem_cons_self ..))];exact Jba fun y hy=>h y (List.mem_cons_of_mem _ hy)
theorem Jhx (x:Ex) (p:Int):atB [x] p=if Cov x p then byteOf x p else 0:=rfl

theorem Jf7 {L:List Ex} (hp:L.Pairwise fun x y=>x.O+(x.D.size:Int)≤y.O) {i j:Nat} {x y:Ex} (hij:i<j) (hx:L[i]?=some x) (hy:L[j]?=some y):x.O+(x.D.size:Int)≤y.O:=by
 obtain⟨hi,rfl⟩:=List.getElem?_eq_some_iff.1 hx;obtain⟨hj,rfl⟩:=List.getElem?_eq_some_iff.1 hy;exact List.pairwise_iff_getElem.1 hp i j hi hj hij
theorem Jc0 {L:List Ex} {k:Nat} {y:Ex} (h:y∈L.take k):∃i,i<k∧L[i]?=some y:=by
 obtain⟨i,hi⟩:=List.mem_iff_getElem?.1 h;have hlt:i<k:=by
  have:=(List.getElem?_eq_some_iff.1 hi).1;rw [List.length_take] at this;omega
 rw [List.getElem?_take_of_lt hlt] at hi;exact⟨i,hlt,hi⟩
theorem Jfi {L:List Ex} {k:Nat} {y:Ex} (h:y∈L.drop k):∃i,k≤i∧L[i]?=some y:=by
 obtain⟨i,hi⟩:=List.mem_iff_getElem?.1 h;rw [List.getElem?_drop] at hi;exact⟨k+i,by omega,hi⟩
theorem Jka {L:List Ex} (hp:L.Pairwise fun x y=>x.O+(x.D.size:Int)≤y.O) {k:Nat} {x:Ex} (hx:L[k]?=some x) (p:Int):
  atB (L.take (k+1)) p=if Cov x p then byteOf x p else atB (L.take k) p:=by
 rw [take_at hx];by_cases hc:Cov x p
 ·rw [if_pos hc,Jba,Jhx,if_pos hc]
  intro y hy hyc;obtain⟨i,hi,hyi⟩:=Jc0 hy;have:=Jf7 hp hi hyi hx;unfold Cov at hc hyc;omega
 ·rw [if_neg hc,Jav]
  intro y hy;rw [List.mem_singleton] at hy;subst hy;exact hc
theorem Jj1 {L:List Ex} (hp:L.Pairwise fun x y=>x.O+(x.D.size:Int)≤y.O) {k:Nat} {x:Ex} (hx:L[k]?=some x) {p:Int} (h:p<x.O):atB L p=atB (L.take k) p:=by
 conv=>lhs;rw [←List.take_append_drop k L]
 refine Jav fun y hy hc=>?_;obtain⟨i,hi,hyi⟩:=Jfi hy;unfold Cov at hc;rcases Nat.lt_or_ge k i with hlt |hge
 ·have:=Jf7 hp hlt hx hyi
  have hs:(0:Int)≤x.D.size:=Int.natCast_nonneg _;omega
 ·obtain rfl:i=k:=by omega
  rw [hx] at hyi;injection hyi with e;subst e;omega
theorem Jh5 {L:List Ex} {k:Nat} {off p:Int} (h:∀i x,i<k→L[i]?=some x→x.O+(x.D.size:Int)≤off) (hp:off≤p):atB (L.take k) p=0:=by
 refine Jd8 fun y hy hc=>?_;obtain⟨i,hi,hyi⟩:=Jc0 hy;have:=h i y hi hyi;unfold Cov at hc;omega
theorem Jai (L:List Ex) (off:Int) (m:Nat):(readL L off m).length=m:=by simp [readL]
theorem Jgc {L:List Ex} {off:Int} {m i:Nat} (h:i<m):(readL L off m)[i]?=some (atB L (off+(i:Int))):=by
 simp [readL,List.getElem?_range h]
theorem Jj6 {L M:List Ex} {off:Int} {m:Nat} (h:∀i:Nat,i<m→atB L (off+(i:Int))=atB M (off+(i:Int))):readL L off m=readL M off m:=by
 unfold readL;exact List.map_congr_left fun i hi=>h i (List.mem_range.1 hi)
theorem Jhu {L:List Ex} {off:Int} {m:Nat} (h:∀i:Nat,i<m→atB L (off+(i:Int))=0):readL L off m=List.replicate m 0:=by
 rw [List.eq_replicate_iff];refine⟨Jai _ _ _,fun b hb=>?_⟩;unfold readL at hb;obtain⟨i,hi,rfl⟩:=List.mem_map.1 hb;exact h i (List.mem_range.1 hi)

def byteAt (s:ByteArray) (p:Nat):UInt8:=s.data.toList.getD p 0
def ofStep (s:ByteArray) (st:Nat×List Ex) (i:Nat):Nat×List Ex:=
 if i<s.size∧byteAt s i≠0 then st else (i+1,if st.1<i then st.2++[⟨(st.1:Int),s.extract st.1 i⟩] else st.2)
def ofSt (s:ByteArray) (k:Nat):Nat×List Ex:=(List.range k).foldl (ofStep s) (0,[])
def ofB (s:ByteArray):List Ex:=(ofSt s (s.size+1)).2
def Row (s:ByteArray) (x:Ex):Prop:=∃a b:Nat,a<b∧b≤s.size∧x=⟨(a:Int),s.extract a b⟩∧∀j,a≤j→j<b→byteAt s j≠0
theorem Jca (s:ByteArray) {a b:Nat} (h1:a≤b) (h2:b≤s.size):(s.extract a b).size=b - a:=by
 rw [ByteArray.size_extract];omega
theorem Jbg (s:ByteArray) (a b:Nat):(s.extract a b).data.toList=(s.data.toList.take b).drop a:=by
 rw [ByteArray.data_extract,Array.toList_extract,List.extract_eq_take_drop,List.take_drop];by_cases h:a≤b
 ·rw [show a+(b - a)=b by omega]
 ·rw [show b - a=0 by omega,Nat.add_zero,List.drop_of_length_le (by rw [List.length_take];omega),List.drop_of_length_le (by rw [List.length_take];omega)]
theorem Row.byte {s:ByteArray} {x:Ex} (h:Row s x) {p:Nat} (hc:Cov x p):byteOf x p=byteAt s p:=by
 obtain⟨a,b,h1,h2,rfl,_⟩:=h;unfold Cov at hc;have hz:=Jca s (Nat.le_of_lt h1) h2;have hc':(a:Int)≤(p:Int)∧(p:Int)<(a:Int)+((s.extract a b).size:Int):=hc;show (s.extract a b).data.toList.getD ((p:Int) - (a:Int)).toNat 0=_;unfold byteAt;rw [Jbg,List.getD_eq_getElem?_getD,List.getD_eq_getElem?_getD,List.getElem?_drop,show a+((p:Int) - (a:Int)).toNat=p by omega,List.getElem?_take_of_lt (by omega)]
theorem Row.none {s:ByteArray} {x:Ex} (h:Row s x) {i:Nat} (hi:i<x.D.size):x.D.data.toList.getD i 0≠0:=by
 obtain⟨a,b,h1,h2,rfl,h3⟩:=h;have hz:=Jca s (Nat.le_of_lt h1) h2;have hi':i<(s.extract a b).size:=hi;show (s.extract a b).data.toList.getD i 0≠0;rw [Jbg,List.getD_eq_getElem?_getD,List.getElem?_drop,List.getElem?_take_of_lt (by omega),←List.getD_eq_getElem?_getD];exact h3 (a+i) (by omega) (by omega)
end Go.Proofs.YtekekhgjobahaaaGreatDoor.ext

namespace Go.Proofs.YtekekhgjobahaaaGreatDoor.ext
open Go.RowKit words

theorem size_list (s:ByteArray):s.data.toList.length=s.size:=by rw [Array.length_toList];rfl
theorem to_list (s:ByteArray):s.toList=s.data.toList:=ByteArray.toList_eq s

def Exts (w:World) (B:Nat) (A:Option Addr) (L:List Ex):Prop:=
 ∀i x,L[i]?=some x→(∃b off,A=some ⟨b,off,none⟩∧b<B∧w.cell? ⟨b,off+i*2,none⟩=some (.int .i64 x.O)∧w.cell? ⟨b,off+i*2+1,none⟩=some (.string x.D))∧
  -9223372036854775808≤x.O∧x.O≤9223372036854775807∧x.D.size≤140737488355328
theorem Exts.keep {w w':World} {B:Nat} {A:Option Addr} {L:List Ex} (h:Exts w B A L) (hb:Below B w w'):Exts w' B A L:=fun i x hx=>by
 obtain⟨⟨b,off,hA,hB,c0,c1⟩,h1⟩:=h i x hx;exact⟨⟨b,off,hA,hB,(hb.cell (p:=⟨b,off+i*2,none⟩) hB).trans c0,(hb.cell (p:=⟨b,off+i*2+1,none⟩) hB).trans c1⟩,h1⟩
theorem Exts.more {w:World} {B B':Nat} {A:Option Addr} {L:List Ex} (h:Exts w B A L) (hB':B≤B'):Exts w B' A L:=fun i x hx=>by
 obtain⟨⟨b,off,hA,hB,c⟩,h1⟩:=h i x hx;exact⟨⟨b,off,hA,Nat.lt_of_lt_of_le hB hB',c⟩,h1⟩
theorem Exts.drewN {w:World} {B:Nat} {A:Option Addr} {L:List Ex} (h:Exts w B A L) (n:Nat):Exts (w.drewN n) B A L:=h
theorem Exts.drop {w:World} {B:Nat} {A:Option Addr} {L:List Ex} (h:Exts w B A L) {b off:Nat} (hA:A=some ⟨b,off,none⟩) (k:Nat):Exts w B (some ⟨b,off+k*2,none⟩) (L.drop k):=fun i x hx=>by
 rw [List.getElem?_drop] at hx;obtain⟨⟨b',off',hA',hB,c0,c1⟩,h1⟩:=h (k+i) x hx;rw [hA] at hA';injection hA' with e;injection e with e1 e2;subst e1 e2;rw [show off+(k+i)*2=off+k*2+i*2 by omega] at c0 c1;exact⟨⟨b,off+k*2,rfl,hB,c0,c1⟩,h1⟩
def exCells (L:List Ex):List Value:=L.flatMap fun x=>[.int .i64 x.O,.string x.D]
theorem Jdj:∀{L:List Ex} {i:Nat} {x:Ex},L[i]?=some x→(exCells L)[i*2]?=some (.int .i64 x.O)∧(exCells L)[i*2+1]?=some (.string x.D)
 |[],i,x,h=>by simp at h
 |y::L,0,x,h=>by
  obtain rfl:y=x:=by simpa using h
  exact⟨rfl,rfl⟩
 |y::L,i+1,x,h=>by
  have:=Jdj (L:=L) (i:=i) (x:=x) (by simpa using h);rw [show (i+1)*2=i*2+2 by omega];exact this
theorem Exts.of_own {w:World} {base:Nat} {e:TypeId} {A:Option Addr} {n c:Nat} {L:List Ex} (hn:n=L.length) (h:w.ownsRow base e 2 (.slice A n c) n (exCells L))
  (hL:∀x∈L,-9223372036854775808≤x.O∧x.O≤9223372036854775807∧x.D.size≤140737488355328):Exts w w.heap.size A L:=fun i x hx=>by
 subst hn;have hlt:i<L.length:=(List.getElem?_eq_some_iff.1 hx).1;obtain⟨g,cap,hv,_,hg⟩:=h.form (by omega);injection hv with hA _ hc;subst hA hc;obtain⟨e0,e1⟩:=Jdj hx;have hcells:=h.cells (g:=g) rfl;have add0:∀j,(⟨g,0,none⟩:Addr).add j=⟨g,j,none⟩:=fun j=>by unfold Addr.add;split<;>simp_all
 refine⟨⟨g,0,rfl,hg,?_,?_⟩,hL x (List.mem_of_getElem? hx)⟩
 ·have:=hcells _ _ e0
  rwa [add0,←Nat.zero_add (i*2)] at this
 ·have:=hcells _ _ e1
  rwa [add0,show i*2+1=0+i*2+1 by omega] at this
end Go.Proofs.YtekekhgjobahaaaGreatDoor.ext
