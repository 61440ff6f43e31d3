import Derived.Test.YtekekhgjobahaaaGreatDoorA0
import Derived.WalkSpells
import Derived.WalkLawsBesides
import Derived.BigQuiet
import Derived.Test.YtekekhgjobahaaaGreatDoorRows
import Derived.ProofKit
import Derived.OpenShut
import Derived.Deep.Slices
import Derived.Lib.SplitLaws
import Derived.Lib.IndexAny
set_option maxHeartbeats 800000
set_option maxRecDepth 100000
open Go.Lib (hid)
open Go.Proofs.Tryz hiding parts
namespace Go.Proofs.YtekekhgjobahaaaGreatDoor.ext

structure Ex where
 O:Int
 D:ByteArray
instance:Inhabited Ex:=⟨⟨0,⟨#[]⟩⟩⟩

def fitOne (size e:Int) (x:Ex):Bool:=decide (1≤x.D.size∧e≤x.O∧x.O+(x.D.size:Int)≤size)
def rightFrom (size:Int):Int→List Ex→Bool
 |_,[]=>true
 |e,x::L=>fitOne size e x&&rightFrom size (x.O+(x.D.size:Int)) L
def rightB (size:Int) (L:List Ex):Bool:=decide (0≤size∧size≤1048576)&&rightFrom size 0 L
def Cov (x:Ex) (p:Int):Prop:=x.O≤p∧p<x.O+(x.D.size:Int)
instance (x:Ex) (p:Int):Decidable (Cov x p):=by unfold Cov;exact inferInstance
def byteOf (x:Ex) (p:Int):UInt8:=x.D.data.toList.getD (p - x.O).toNat 0
def atB:List Ex→Int→UInt8
 |[],_=>0
 |x::L,p=>if Cov x p then byteOf x p else atB L p
def readL (L:List Ex) (off:Int) (m:Nat):List UInt8:=(List.range m).map fun i:Nat=>atB L (off+(i:Int))
def countOf (size off n:Int):Nat:=if off<0 then 0 else (min n (size - off)).toNat
def readB (size:Int) (L:List Ex) (off n:Int):List UInt8:=readL L off (countOf size off n)

theorem drop_at {α:Type} {L:List α} {k:Nat} {x:α} (h:L[k]?=some x):L.drop k=x::L.drop (k+1):=by
 obtain⟨hk,rfl⟩:=List.getElem?_eq_some_iff.1 h;exact List.drop_eq_getElem_cons hk
theorem take_at {α:Type} {L:List α} {k:Nat} {x:α} (h:L[k]?=some x):L.take (k+1)=L.take k++[x]:=by
 obtain⟨hk,rfl⟩:=List.getElem?_eq_some_iff.1 h;exact List.take_succ_eq_append_getElem hk

theorem Jbe (size e:Int) (x:Ex) (L:List Ex):rightFrom size e (x::L)=(fitOne size e x&&rightFrom size (x.O+(x.D.size:Int)) L):=rfl
theorem Joz {size e:Int} {x:Ex} (h1:1≤x.D.size) (h2:e≤x.O) (h3:x.O+(x.D.size:Int)≤size):fitOne size e x=true:=decide_eq_true ⟨h1,h2,h3⟩
theorem Jrh {size e:Int} {x:Ex} (h:¬(1≤x.D.size∧e≤x.O∧x.O+(x.D.size:Int)≤size)):fitOne size e x=false:=decide_eq_false h

theorem Jd3 (size:Int):∀(L:List Ex) (e:Int),rightFrom size e L=true↔
  (∀x∈L,1≤x.D.size∧e≤x.O∧x.O+(x.D.size:Int)≤size)∧L.Pairwise fun x y=>x.O+(x.D.size:Int)≤y.O
 |[],e=>by simp [rightFrom]
 |x::L,e=>by
  rw [Jbe,Bool.and_eq_true,Jd3 size L,List.pairwise_cons];unfold fitOne;rw [decide_eq_true_iff];constructor
  ·rintro⟨⟨h1,h2,h3⟩,h4,h5⟩
   refine⟨fun y hy=>?_,fun y hy=>(h4 y hy).2.1,h5⟩;rcases List.mem_cons.1 hy with rfl |hy
   ·exact⟨h1,h2,h3⟩
   ·have:=h4 y hy
    exact⟨this.1,by omega,this.2.2⟩
  ·rintro⟨h1,h2,h3⟩
   refine⟨h1 x (List.mem_cons_self ..),fun y hy=>⟨(h1 y (List.mem_cons_of_mem _ hy)).1,h2 y hy,(h1 y (List.mem_cons_of_mem _ hy)).2.2⟩,h3⟩
theorem Jn5 {size:Int} {L:List Ex}:rightB size L=true↔(0≤size∧size≤1048576)∧
  (∀x∈L,1≤x.D.size∧0≤x.O∧x.O+(x.D.size:Int)≤size)∧L.Pairwise fun x y=>x.O+(x.D.size:Int)≤y.O:=by
 unfold rightB;rw [Bool.and_eq_true,decide_eq_true_iff,Jd3]

theorem Jfu (x:Ex) (L:List Ex) (p:Int):atB (x::L) p=if Cov x p then byteOf x p else atB L p:=rfl
theorem Jif:∀{L:List Ex} {p:Int},(∀x∈L,¬Cov x p)→atB L p=0
 |[],_,_=>rfl
 |x::L,p,h=>by
  rw [Jfu,if_neg (h x (List.mem_cons_self ..))];exact Jif fun y hy=>h y (List.mem_cons_of_mem _ hy)
theorem Jbu:∀{L M:List Ex} {p:Int},(∀x∈M,¬Cov x p)→atB (L++M) p=atB L p
 |[],M,p,h=>Jif h
 |x::L,M,p,h=>by
  rw [List.cons_append,Jfu,Jfu,Jbu h]
theorem Jcm:∀{L M:List Ex} {p:Int},(∀x∈L,¬Cov x p)→atB (L++M) p=atB M p
 |[],_,_,_=>rfl
 |x::L,M,p,h=>by
  rw [List.cons_append,Jfu,if_neg (h x (List.mem_cons_self ..))];exact Jcm fun y hy=>h y (List.mem_cons_of_mem _ hy)
theorem Jo5 (x:Ex) (p:Int):atB [x] p=if Cov x p then byteOf x p else 0:=rfl

theorem Jlm {L:List Ex} (hp:L.Pairwise fun x y=>x.O+(x.D.size:Int)≤y.O) {i j:Nat} {x y:Ex} (hij:i<j) (hx:L[i]?=some x) (hy:L[j]?=some y):x.O+(x.D.size:Int)≤y.O:=by
 obtain⟨hi,rfl⟩:=List.getElem?_eq_some_iff.1 hx;obtain⟨hj,rfl⟩:=List.getElem?_eq_some_iff.1 hy;exact List.pairwise_iff_getElem.1 hp i j hi hj hij
theorem Jgj {L:List Ex} {k:Nat} {y:Ex} (h:y∈L.take k):∃i,i<k∧L[i]?=some y:=by
 obtain⟨i,hi⟩:=List.mem_iff_getElem?.1 h;have hlt:i<k:=by
  have:=(List.getElem?_eq_some_iff.1 hi).1;rw [List.length_take] at this;omega
 rw [List.getElem?_take_of_lt hlt] at hi;exact⟨i,hlt,hi⟩
theorem Jl5 {L:List Ex} {k:Nat} {y:Ex} (h:y∈L.drop k):∃i,k≤i∧L[i]?=some y:=by
 obtain⟨i,hi⟩:=List.mem_iff_getElem?.1 h;rw [List.getElem?_drop] at hi;exact⟨k+i,by omega,hi⟩
theorem Jtz {L:List Ex} (hp:L.Pairwise fun x y=>x.O+(x.D.size:Int)≤y.O) {k:Nat} {x:Ex} (hx:L[k]?=some x) (p:Int):
  atB (L.take (k+1)) p=if Cov x p then byteOf x p else atB (L.take k) p:=by
 rw [take_at hx];by_cases hc:Cov x p
 ·rw [if_pos hc,Jcm,Jo5,if_pos hc]
  intro y hy hyc;obtain⟨i,hi,hyi⟩:=Jgj hy;have:=Jlm hp hi hyi hx;unfold Cov at hc hyc;omega
 ·rw [if_neg hc,Jbu]
  intro y hy;rw [List.mem_singleton] at hy;subst hy;exact hc
theorem Juk {L:List Ex} (hp:L.Pairwise fun x y=>x.O+(x.D.size:Int)≤y.O) {k:Nat} {x:Ex} (hx:L[k]?=some x) {p:Int} (h:p<x.O):atB L p=atB (L.take k) p:=by
 conv=>lhs;rw [←List.take_append_drop k L]
 refine Jbu fun y hy hc=>?_;obtain⟨i,hi,hyi⟩:=Jl5 hy;unfold Cov at hc;rcases Nat.lt_or_ge k i with hlt |hge
 ·have:=Jlm hp hlt hx hyi
  have hs:(0:Int)≤x.D.size:=Int.natCast_nonneg _;omega
 ·obtain rfl:i=k:=by omega
  rw [hx] at hyi;injection hyi with e;subst e;omega
theorem Jpq {L:List Ex} {k:Nat} {off p:Int} (h:∀i x,i<k→L[i]?=some x→x.O+(x.D.size:Int)≤off) (hp:off≤p):atB (L.take k) p=0:=by
 refine Jif fun y hy hc=>?_;obtain⟨i,hi,hyi⟩:=Jgj hy;have:=h i y hi hyi;unfold Cov at hc;omega
theorem Jax (L:List Ex) (off:Int) (m:Nat):(readL L off m).length=m:=by simp [readL]
theorem Jmk {L:List Ex} {off:Int} {m i:Nat} (h:i<m):(readL L off m)[i]?=some (atB L (off+(i:Int))):=by
 simp [readL,List.getElem?_range h]
theorem Ju7 {L M:List Ex} {off:Int} {m:Nat} (h:∀i:Nat,i<m→atB L (off+(i:Int))=atB M (off+(i:Int))):readL L off m=readL M off m:=by
 unfold readL;exact List.map_congr_left fun i hi=>h i (List.mem_range.1 hi)
theorem Jnz {L:List Ex} {off:Int} {m:Nat} (h:∀i:Nat,i<m→atB L (off+(i:Int))=0):readL L off m=List.replicate m 0:=by
 rw [List.eq_replicate_iff];refine⟨Jax _ _ _,fun b hb=>?_⟩;unfold readL at hb;obtain⟨i,hi,rfl⟩:=List.mem_map.1 hb;exact h i (List.mem_range.1 hi)

def byteAt (s:ByteArray) (p:Nat):UInt8:=s.data.toList.getD p 0
def ofStep (s:ByteArray) (st:Nat×List Ex) (i:Nat):Nat×List Ex:=
 if i<s.size∧byteAt s i≠0 then st else (i+1,if st.1<i then st.2++[⟨(st.1:Int),s.extract st.1 i⟩] else st.2)
def ofSt (s:ByteArray) (k:Nat):Nat×List Ex:=(List.range k).foldl (ofStep s) (0,[])
def ofB (s:ByteArray):List Ex:=(ofSt s (s.size+1)).2
theorem Joi (s:ByteArray) {a b:Nat} (h1:a≤b) (h2:b≤s.size):(s.extract a b).size=b - a:=by
 rw [ByteArray.size_extract];omega
theorem Jcp (s:ByteArray) (a b:Nat):(s.extract a b).data.toList=(s.data.toList.take b).drop a:=by
 rw [ByteArray.data_extract,Array.toList_extract,List.extract_eq_take_drop,List.take_drop];by_cases h:a≤b
 ·rw [show a+(b - a)=b by omega]
 ·rw [show b - a=0 by omega,Nat.add_zero,List.drop_of_length_le (by rw [List.length_take];omega),List.drop_of_length_le (by rw [List.length_take];omega)]
end Go.Proofs.YtekekhgjobahaaaGreatDoor.ext

namespace Go.Proofs.YtekekhgjobahaaaGreatDoor.ext
open Go.RowKit words

theorem size_list (s:ByteArray):s.data.toList.length=s.size:=by rw [Array.length_toList];rfl
theorem to_list (s:ByteArray):s.toList=s.data.toList:=ByteArray.toList_eq s

def Exts (w:World) (B:Nat) (A:Option Addr) (L:List Ex):Prop:=
 ∀i x,L[i]?=some x→(∃b off,A=some ⟨b,off,none⟩∧b<B∧w.cell? ⟨b,off+i*2,none⟩=some (.int .i64 x.O)∧w.cell? ⟨b,off+i*2+1,none⟩=some (.string x.D))∧
  -9223372036854775808≤x.O∧x.O≤9223372036854775807∧x.D.size≤140737488355328
theorem Exts.keep {w w':World} {B:Nat} {A:Option Addr} {L:List Ex} (h:Exts w B A L) (hb:Below B w w'):Exts w' B A L:=fun i x hx=>by
 obtain⟨⟨b,off,hA,hB,c0,c1⟩,h1⟩:=h i x hx;exact⟨⟨b,off,hA,hB,(hb.cell (p:=⟨b,off+i*2,none⟩) hB).trans c0,(hb.cell (p:=⟨b,off+i*2+1,none⟩) hB).trans c1⟩,h1⟩
theorem Exts.more {w:World} {B B':Nat} {A:Option Addr} {L:List Ex} (h:Exts w B A L) (hB':B≤B'):Exts w B' A L:=fun i x hx=>by
 obtain⟨⟨b,off,hA,hB,c⟩,h1⟩:=h i x hx;exact⟨⟨b,off,hA,Nat.lt_of_lt_of_le hB hB',c⟩,h1⟩
theorem Exts.drewN {w:World} {B:Nat} {A:Option Addr} {L:List Ex} (h:Exts w B A L) (n:Nat):Exts (w.drewN n) B A L:=h
theorem below_drewN {B:Nat} {a w:World} (h:Below B a w) (n:Nat):Below B a (w.drewN n):=⟨h.os,h.tape,h.output,h.size,h.block⟩
theorem Exts.drop {w:World} {B:Nat} {A:Option Addr} {L:List Ex} (h:Exts w B A L) {b off:Nat} (hA:A=some ⟨b,off,none⟩) (k:Nat):Exts w B (some ⟨b,off+k*2,none⟩) (L.drop k):=fun i x hx=>by
 rw [List.getElem?_drop] at hx;obtain⟨⟨b',off',hA',hB,c0,c1⟩,h1⟩:=h (k+i) x hx;rw [hA] at hA';injection hA' with e;injection e with e1 e2;subst e1 e2;rw [show off+(k+i)*2=off+k*2+i*2 by omega] at c0 c1;exact⟨⟨b,off+k*2,rfl,hB,c0,c1⟩,h1⟩
def exCells (L:List Ex):List Value:=L.flatMap fun x=>[.int .i64 x.O,.string x.D]
theorem Jbx (L:List Ex):(exCells L).length=L.length*2:=by
 induction L with
 |nil=>rfl
 |cons x L ih=>
  show (([.int .i64 x.O,.string x.D]:List Value)++exCells L).length=_;rw [List.length_append,ih,List.length_cons];simp;omega
theorem Jb7:∀{L:List Ex} {i:Nat} {x:Ex},L[i]?=some x→(exCells L)[i*2]?=some (.int .i64 x.O)∧(exCells L)[i*2+1]?=some (.string x.D)
 |[],i,x,h=>by simp at h
 |y::L,0,x,h=>by
  obtain rfl:y=x:=by simpa using h
  exact⟨rfl,rfl⟩
 |y::L,i+1,x,h=>by
  have:=Jb7 (L:=L) (i:=i) (x:=x) (by simpa using h);rw [show (i+1)*2=i*2+2 by omega];exact this
theorem Jg6 (L M:List Ex):exCells (L++M)=exCells L++exCells M:=by simp [exCells]
theorem Exts.of_own {w:World} {base:Nat} {e:TypeId} {A:Option Addr} {n c:Nat} {L:List Ex} (hn:n=L.length) (h:w.ownsRow base e 2 (.slice A n c) n (exCells L))
  (hL:∀x∈L,-9223372036854775808≤x.O∧x.O≤9223372036854775807∧x.D.size≤140737488355328):Exts w w.heap.size A L:=fun i x hx=>by
 subst hn;have hlt:i<L.length:=(List.getElem?_eq_some_iff.1 hx).1;obtain⟨g,cap,hv,_,hg⟩:=h.form (by omega);injection hv with hA _ hc;subst hA hc;obtain⟨e0,e1⟩:=Jb7 hx;have hcells:=h.cells (g:=g) rfl;have add0:∀j,(⟨g,0,none⟩:Addr).add j=⟨g,j,none⟩:=fun j=>by unfold Addr.add;split<;>simp_all
 refine⟨⟨g,0,rfl,hg,?_,?_⟩,hL x (List.mem_of_getElem? hx)⟩
 ·have:=hcells _ _ e0
  rwa [add0,←Nat.zero_add (i*2)] at this
 ·have:=hcells _ _ e1
  rwa [add0,show i*2+1=0+i*2+1 by omega] at this
end Go.Proofs.YtekekhgjobahaaaGreatDoor.ext

namespace Go.Proofs.YtekekhgjobahaaaGreatDoor.ext
open Go.ChangeShapes Go.WideShapes Go.RowKit words

theorem two {α:Type} {l:List α} (h:l.length=2):∃a b,l=[a,b]:=by
 match l,h with
 |[a,b],_=>exact⟨a,b,rfl⟩
theorem cellsInt:Tryz.prog.cellsOf 3=1:=by kernel_rfl
theorem cellsStr:Tryz.prog.cellsOf 9=1:=by kernel_rfl
theorem cellsExt:Tryz.prog.cellsOf 131=2:=by kernel_rfl
theorem bytesExt:Tryz.prog.bytesOf 131=24:=by kernel_rfl
def Sized {H:Type} (t:TypeId) (d:DataW H):Prop:=∀n∈d.weights prog t,n≤reachBytes
theorem Sized.of_each {H:Type} {ts:List TypeId} {ds:List (DataW H)} (h:(DataW.weightsEach prog ts ds).all (·≤reachBytes)=true) {j:Nat} {t:TypeId} {d:DataW H} (ht:ts[j]?=some t) (hd:ds[j]?=some d):Sized t d:=fun n hn=>by
 have:=List.all_eq_true.1 h _ (DataW.weights_mem_each ht hd n hn);simpa using this
section
variable {H:Type} {enc:TypeId×Value→H} {W:World} {base:Nat} {spare:Nat→Bool} {held:Bool}
theorem Jye {fuel:Nat} {cs:List Value} {x:DataW H×List MemPlace} (h:DataW.trod enc prog W base spare held fuel 131 cs=some x) (hs:Sized 131 x.1):
  ∃y:Ex,cs=[.int .i64 y.O,.string y.D]∧ -9223372036854775808≤y.O∧y.O≤9223372036854775807∧y.D.size≤140737488355328:=by
 obtain⟨xs,n,_,hxe,hlen,hxl,hf⟩:=DataW.trod_struct underlying131 h;rw [cellsExt] at hlen;obtain⟨c0,c1,rfl⟩:=two hlen;obtain⟨x0,x1,rfl⟩:=two hxl;have g0:DataW.trod enc prog W base spare held n 3 (([c0,c1].drop 0).take (Tryz.prog.cellsOf 3))=some x0:=hf 0 _ rfl;have g1:DataW.trod enc prog W base spare held n 9 (([c0,c1].drop 1).take (Tryz.prog.cellsOf 9))=some x1:=hf 1 _ rfl;rw [cellsInt] at g0;rw [cellsStr] at g1;obtain⟨O,e0,_,wO⟩:=DataW.trod_int underlying3 (show DataW.trod enc prog W base spare held n 3 [c0]=some x0 from g0);obtain⟨D,e1,e1',_⟩:=DataW.trod_string underlying9 (show DataW.trod enc prog W base spare held n 9 [c1]=some x1 from g1);have hb: -9223372036854775808≤O∧O≤9223372036854775807:=by
  simp [Lit.wf,IntKind.min,IntKind.max,IntKind.signed,IntKind.bits] at wO;omega
 have hD:D.size≤140737488355328:=by
  subst hxe;have:=hs D.data.toList.length (by
    rw [e1'];simp [DataW.weights,DataW.weightsEach,underlying131])
  rw [size_list] at this;have hr:=reachBytes_lt;omega
 exact⟨⟨O,D⟩,by simp_all,hb.1,hb.2,hD⟩
theorem Jau {P:Program} {e:TypeId}:∀{l:List (DataW H)} {d:DataW H},d∈l→∀n∈d.weights P e,n∈DataW.weightsAll P e l
 |[],_,h,_,_=>by cases h
 |x::l,d,h,n,hn=>by
  simp only [DataW.weightsAll,List.mem_append];rcases List.mem_cons.1 h with rfl |h
  ·exact .inl hn
  ·exact .inr (Jau h n hn)
theorem Jw9 {fuel:Nat} {a0:Option Addr} {len cap:Nat} {x:DataW H×List MemPlace} (h:DataW.trod enc prog W base spare held fuel 44 [.slice a0 len cap]=some x) (hs:Sized 44 x.1):
  ∃L:List Ex,L.length=len∧Exts W W.heap.size a0 L∧len≤140737488355328∧len≤cap:=by
 rcases Deep.open_slice underlying44 h with⟨hc,_⟩ |⟨a,l,c,m,n,D,Pl,hc,_,hl,hm,hmm,hx,hi⟩
 ·simp at hc
  obtain⟨rfl,rfl,rfl⟩:=hc;exact⟨[],rfl,fun i x hx=>by simp at hx,by omega,Nat.le_refl _⟩
 ·simp at hc
  obtain⟨rfl,rfl,rfl⟩:=hc;have hlm:len≤m:=by rw [hmm];split<;>omega
  subst hx;have hw:=hs _ (by
    simp only [DataW.weights,underlying44];exact List.mem_cons_self ..)
  rw [bytesExt,List.length_map,List.length_range,List.length_map,List.length_range] at hw;have hr:=reachBytes_lt;have each:∀i,i<len→∃y:Ex,(-9223372036854775808≤y.O∧y.O≤9223372036854775807∧y.D.size≤140737488355328)∧∀j v,([.int .i64 y.O,.string y.D]:List Value)[j]?=some v→W.cell? ((a.add (i*2)).add j)=some v:=fun i hlt=>by
   obtain⟨cs,hcs,ht⟩:=hi i (by omega);rw [cellsExt] at hcs;have hsi:Sized 131 (D i):=fun k hk=>hs k (by
     simp only [DataW.weights,underlying44];refine List.mem_cons_of_mem _ (List.mem_append_left _ (Jau (d:=D i) (List.mem_map.2 ⟨i,List.mem_range.2 hlt,rfl⟩) k hk)))
   obtain⟨y,rfl,hy⟩:=Jye ht hsi;obtain⟨_,_,hat⟩:=World.cells?_some hcs;exact⟨y,hy,fun j v hj=>(hat j (by have:=(List.getElem?_eq_some_iff.1 hj).1;simpa using this)).trans hj⟩
  obtain⟨f,hfl⟩:=Deep.choose_lt each;refine⟨(List.range len).map f,by simp,fun i x hx=>?_,by omega,hl⟩;have hlt:i<len:=by
   have:=(List.getElem?_eq_some_iff.1 hx).1;simpa using this
  have hxe:x=f i:=by
   rw [List.getElem?_map,List.getElem?_range hlt] at hx;simpa using hx.symm
  subst hxe;obtain⟨b,off,spot⟩:=a;have h0:=(hfl 0 (by omega)).2 0 _ rfl;have hspot:spot=none:=by simpa [Addr.add] using World.cell?_spot h0
  subst hspot;obtain⟨hb,hc⟩:=hfl i hlt;simp only [add_plain] at hc;have c0:=hc 0 _ rfl;exact⟨⟨b,off,rfl,World.block_lt_of_cell? W _ c0,c0,hc 1 _ rfl⟩,hb⟩
end
theorem int_bounds {n:Int} (h:(Lit.int .i64 n).wf=true): -9223372036854775808≤n∧n≤9223372036854775807:=by
 simp [Lit.wf,IntKind.min,IntKind.max,IntKind.signed,IntKind.bits] at h;omega
end Go.Proofs.YtekekhgjobahaaaGreatDoor.ext

namespace Go.Proofs.YtekekhgjobahaaaGreatDoor.name
open Go.RowKit words

def right (l:List UInt8):Bool:=decide (1≤l.length∧l.length≤64)&& !(l==[46])&& !(l==[46,46])&& !(l.contains 47)&& !(l.contains 0)

theorem size_list (s:ByteArray):s.data.toList.length=s.size:=by rw [Array.length_toList];rfl
theorem to_list (s:ByteArray):s.toList=s.data.toList:=ByteArray.toList_eq s
theorem Ja7 (s:ByteArray) (k:Nat) (h:k<s.size):s.data.toList.take (k+1)=s.data.toList.take k++[s[k]]:=by
 rw [List.take_succ_eq_append_getElem (by simpa using h)];rfl
def clean (l:List UInt8):Bool:= !(l.contains 47)&& !(l.contains 0)
theorem Jjk (l:List UInt8):clean l=true↔(47:UInt8) ∉ l∧(0:UInt8) ∉ l:=by
 unfold clean;rw [Bool.and_eq_true,Bool.not_eq_true',Bool.not_eq_true',List.contains_eq_mem,List.contains_eq_mem,decide_eq_false_iff_not,decide_eq_false_iff_not]
theorem Jom {l:List UInt8} {b:UInt8} (h:clean l=true) (h1:b≠47) (h2:b≠0):clean (l++[b])=true:=by
 rw [Jjk] at h ⊢;refine⟨fun hm=>?_,fun hm=>?_⟩
 ·rcases List.mem_append.1 hm with hm |hm
  ·exact h.1 hm
  ·exact h1 (List.mem_singleton.1 hm).symm
 ·rcases List.mem_append.1 hm with hm |hm
  ·exact h.2 hm
  ·exact h2 (List.mem_singleton.1 hm).symm
theorem Jji {l:List UInt8} (h:(47:UInt8)∈l∨(0:UInt8)∈l):clean l=false:=by
 rw [←Bool.not_eq_true,Jjk];rintro⟨h1,h2⟩;exact h.elim h1 h2
theorem Jm8 (s:ByteArray) (k:Nat) (h:k<s.size):s[k]∈s.data.toList:=by
 have:s[k]=s.data.toList[k]'(by rw [size_list];exact h):=rfl;rw [this];exact List.getElem_mem _
theorem right_eq (l:List UInt8):right l=(decide (1≤l.length∧l.length≤64)&& !(l==[46])&& !(l==[46,46])&&clean l):=by
 unfold right clean;simp only [Bool.and_assoc]
theorem Jmo {l:List UInt8} (h1:1≤l.length) (h2:l.length≤64) (h3:l≠[46]) (h4:l≠[46,46]):right l=clean l:=by
 have e3:(l==[46])=false:=by simpa using h3
 have e4:(l==[46,46])=false:=by simpa using h4
 rw [right_eq,e3,e4,decide_eq_true ⟨h1,h2⟩];rfl
theorem Jaw {l:List UInt8} (h:l=[]∨l=[46]∨l=[46,46]∨64<l.length):right l=false:=by
 rw [right_eq];rcases h with rfl |rfl |rfl |h
 ·rfl
 ·rfl
 ·rfl
 ·rw [decide_eq_false (by omega)];rfl
theorem Jbi (s:ByteArray) (w:World) (hs:s.size≤9223372036854775807):Calls prog 134 #[.string s] w fun e w'=>e= .returned (.bool (right s.data.toList))∧w=w':=by
 by_cases e0:s.toList=[]
 ·have hr:right s.data.toList=false:=Jaw (.inl (by rw [←to_list];exact e0))
  have f0:s.toList.isEmpty=true:=by rw [e0];rfl
  rw [hr];go_enter func134,ntmps134
  go_wp2
  go_ret
  exact⟨rfl,rfl⟩
 ·have f0:s.toList.isEmpty=false:=by simpa using e0
  by_cases e1:s.toList=[46]
  ·have hr:right s.data.toList=false:=Jaw (.inr (.inl (by rw [←to_list];exact e1)))
   have f1:(s.toList==[46])=true:=by rw [e1];rfl
   rw [hr];clear e1;go_enter func134,ntmps134
   go_wp2
   go_ret
   exact⟨rfl,rfl⟩
  ·have f1:(s.toList==[46])=false:=by simpa using e1
   by_cases e2:s.toList=[46,46]
   ·have hr:right s.data.toList=false:=Jaw (.inr (.inr (.inl (by rw [←to_list];exact e2))))
    have f2:(s.toList==[46,46])=true:=by rw [e2];rfl
    rw [hr];clear e2;go_enter func134,ntmps134
    go_wp2
    go_ret
    exact⟨rfl,rfl⟩
   ·have f2:(s.toList==[46,46])=false:=by simpa using e2
    by_cases e3:64<s.size
    ·have hr:right s.data.toList=false:=Jaw (.inr (.inr (.inr (by rw [size_list];exact e3))))
     rw [hr];go_enter func134,ntmps134
     go_wp2
     go_ret
     exact⟨rfl,rfl⟩
    ·have hl:s.data.toList.length=s.size:=size_list s
     have h1:1≤s.size:=by
      rcases Nat.eq_zero_or_pos s.size with h0 |h0
      ·exact absurd (by rw [to_list];exact List.eq_nil_of_length_eq_zero (by omega)) e0
      ·exact h0
     have hr:right s.data.toList=clean s.data.toList:=Jmo (by omega) (by omega) (by rw [←to_list];exact e1) (by rw [←to_list];exact e2);rw [hr];have d3:decide (64<(s.size:Int))=false:=by simp;omega
     clear hr hl;go_enter func134,ntmps134
     go_wp2
     clear f0 f1 f2 d3 e0 e1 e2;go_loop [3] (fun c=>∃k:Nat,k≤s.size∧c= .int .i64 k∧clean (s.data.toList.take k)=true) (fun c=>s.size - (intOf c).toNat)
     case atStart=>exact⟨0,Nat.zero_le _,rfl,rfl⟩
     case round=>
      obtain⟨k,hk,rfl,hc⟩:=hrel;have HC:=hid hc;clear hc;by_cases hlt:k<s.size
      ·have HS:=hid (Ja7 s k hlt)
       have HM:=hid (Jm8 s k hlt);by_cases c1:s[k]=47
       ·have g1:((s[k].toNat:Int)==47)=true:=by rw [c1];rfl
        have HF:=hid (show clean s.data.toList=false from Jji (.inl (by rw [←c1];exact HM.out)));clear c1;go_wp2
        go_ret
        exact⟨by rw [HF.out];rfl,rfl⟩
       ·have g1:((s[k].toNat:Int)==47)=false:=by
         rw [beq_eq_false_iff_ne];intro e;exact c1 (UInt8.toNat_inj.1 (by simpa using Int.ofNat_inj.1 e))
        by_cases c2:s[k]=0
        ·have g2:((s[k].toNat:Int)==0)=true:=by rw [c2];rfl
         have HF:=hid (show clean s.data.toList=false from Jji (.inr (by rw [←c2];exact HM.out)));clear c1 c2;go_wp2
         go_ret
         exact⟨by rw [HF.out];rfl,rfl⟩
        ·have g2:((s[k].toNat:Int)==0)=false:=by
          rw [beq_eq_false_iff_ne];intro e;exact c2 (UInt8.toNat_inj.1 (by simpa using Int.ofNat_inj.1 e))
         have HN:=hid (Jom HC.out c1 c2);clear c1 c2;go_wp2
         go_round
         case rel=>exact⟨k+1,by omega,by go_num,by rw [HS.out];exact HN.out⟩
         case measure=>simp [intOf];omega
      ·have HT:=hid (show clean s.data.toList=true by have:=HC.out;rwa [List.take_of_length_le (by rw [size_list];omega)] at this)
       go_wp2
       go_ret
       exact⟨by rw [HT.out];rfl,rfl⟩
end Go.Proofs.YtekekhgjobahaaaGreatDoor.name

namespace Go.Proofs.YtekekhgjobahaaaGreatDoor.name

def cut:List UInt8→List (List UInt8)
 |[]=>[[]]
 |b::l=>if b=47 then []::cut l else match cut l with
  |[]=>[[b]]
  |p::r=>(b::p)::r
theorem Ji3:∀l:List UInt8,Lib.splitK [47] 0 (Lib.count l [47]) l=cut l
 |[]=>by rw [Lib.count_one];rfl
 |b::l=>by
  have ih:=Ji3 l;by_cases hb:b=47
  ·subst hb
   have hix:Lib.index (47::l) [47]=0:=by rw [Lib.index_one];simp [Lib.indexByte]
   rw [Lib.count_cons_eq,Nat.add_comm 1,Lib.splitK,if_neg (by rw [hix];decide),hix,cut,if_pos rfl,←ih];rfl
  ·rw [Lib.count_cons_ne b 47 l hb,cut,if_neg hb,←ih]
   rcases hn:Lib.count l [47] with _ |k
   ·rfl
   ·have hpos:Lib.index l [47]≠ -1:=fun e=>by
     have:=Lib.count_miss e;omega
    have hge: -1≤Lib.index l [47]:=by rw [Lib.index_one];exact Lib.indexByte_ge _ _
    obtain⟨i,hi⟩:∃i:Nat,Lib.index l [47]=i:=⟨(Lib.index l [47]).toNat,by omega⟩
    have hib:Lib.indexByte l 47=(i:Int):=by rw [←Lib.index_one];exact hi
    have hi2:Lib.index (b::l) [47]=((i+1:Nat):Int):=by
     have e1:(b==(47:UInt8))=false:=by simpa using hb
     rw [Lib.index_one,Lib.indexByte,e1,hib];have e2:((i:Int)== -1)=false:=by rw [beq_eq_false_iff_ne];omega
     rw [e2];simp
    rw [Lib.splitK,if_neg (by rw [hi2,beq_iff_eq];omega),hi2,Lib.splitK,if_neg (by rw [hi,beq_iff_eq];omega),hi];simp
theorem Jn1 (s:ByteArray):(Lib.splitB ⟨#[47]⟩ 0 (Lib.countB s ⟨#[47]⟩) s).map (fun x=>x.data.toList)=cut s.data.toList:=by
 have h:=Lib.splitB_data ⟨#[47]⟩ 0 (Lib.countB s ⟨#[47]⟩) s;rw [←Ji3];exact h

def idle (p:List UInt8):Bool:=p==[]||p==[46]
def bad (p:List UInt8):Bool:= !idle p&& !(p==[46,46])&& !right p
def parts (l:List UInt8):Option (List (List UInt8)):=if l.length<1∨1024<l.length∨(cut l).any bad=true then none else some ((cut l).filter fun p=> !idle p)
end Go.Proofs.YtekekhgjobahaaaGreatDoor.name
