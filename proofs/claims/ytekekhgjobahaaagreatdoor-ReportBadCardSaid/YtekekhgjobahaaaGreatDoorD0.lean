import Derived.Lib.ItoaLen
import Derived.Test.YtekekhgjobahaaaGreatDoorA0
import Derived.Test.YtekekhgjobahaaaGreatDoorChecked
import Derived.StillTailTactics
import Derived.WalkSpells
import Derived.WalkLawsBesides
import Derived.BigQuiet
import Derived.Test.YtekekhgjobahaaaGreatDoorShelf
import Derived.Lib.BufferRead
set_option maxHeartbeats 3200000
set_option maxRecDepth 100000
open Go.Lib (hid)
open Go.Proofs.Tryz
namespace Go.Proofs.YtekekhgjobahaaaGreatDoor.cal
open Go.Lib

def hexD (n:Nat):UInt8:=if n<10 then UInt8.ofNat (48+n) else UInt8.ofNat (87+n)
def dgs:List UInt8:=[48,49,50,51,52,53,54,55,56,57,97,98,99,100,101,102]
def hexP:List UInt8→List UInt8
 |[]=>[]
 |b::r=>hexD (b.toNat / 16)::hexD (b.toNat % 16)::hexP r
def hexL (l:List UInt8):List UInt8:=if l=[] then [45] else hexP l
def unP:List UInt8→Option (List UInt8)
 |[]=>some []
 |[_]=>none
 |a::b::r=>if indexByte dgs a<0∨indexByte dgs b<0 then none else (unP r).map (UInt8.ofNat (16*(indexByte dgs a).toNat+(indexByte dgs b).toNat)::·)
def unH (w:List UInt8):Option (List UInt8):=if w=[45] then some [] else if w=[] then none else unP w

theorem Jxn:∀n:Fin 16,indexByte dgs (hexD n.val)=(n.val:Int):=by decide+kernel
theorem dig (n:Nat) (h:n<16):indexByte dgs (hexD n)=(n:Int):=Jxn ⟨n,h⟩
theorem Jp9:∀c:Fin 256,indexByte dgs (UInt8.ofNat c.val)= -1∨(0≤indexByte dgs (UInt8.ofNat c.val)∧indexByte dgs (UInt8.ofNat c.val)<16∧hexD (indexByte dgs (UInt8.ofNat c.val)).toNat=UInt8.ofNat c.val):=by decide+kernel
theorem undig (c:UInt8):indexByte dgs c= -1∨(0≤indexByte dgs c∧indexByte dgs c<16∧hexD (indexByte dgs c).toNat=c):=by
 have h:=Jp9 ⟨c.toNat,c.toNat_lt⟩;simpa using h
theorem Jm9:∀l:List UInt8,unP (hexP l)=some l
 |[]=>rfl
 |b::r=>by
  have hb:=b.toNat_lt;have h1:=dig (b.toNat / 16) (by omega);have h2:=dig (b.toNat % 16) (by omega);show (if _ then _ else _)=_;rw [h1,h2,if_neg (by omega),Jm9 r];have:16*((b.toNat / 16:Nat):Int).toNat+((b.toNat % 16:Nat):Int).toNat=b.toNat:=by omega
  rw [this];simp
theorem Jml:∀(w l:List UInt8),unP w=some l→hexP l=w
 |[],l,h=>by simp only [unP,Option.some.injEq] at h;subst h;rfl
 |[_],l,h=>by cases h
 |a::b::r,l,h=>by
  have h:(if indexByte dgs a<0∨indexByte dgs b<0 then none else (unP r).map (UInt8.ofNat (16*(indexByte dgs a).toNat+(indexByte dgs b).toNat)::·))=some l:=h;split at h
  ·cases h
  ·rename_i hn
   obtain⟨t,ht,rfl⟩:=Option.map_eq_some_iff.1 h;have ih:=Jml r t ht;rcases undig a with ha |⟨a0,a1,a2⟩
   ·omega
   rcases undig b with hb |⟨b0,b1,b2⟩
   ·omega
   show _::_::hexP t=_;have e:(UInt8.ofNat (16*(indexByte dgs a).toNat+(indexByte dgs b).toNat)).toNat=16*(indexByte dgs a).toNat+(indexByte dgs b).toNat:=by
    rw [UInt8.toNat_ofNat'];omega
   rw [e,ih,show (16*(indexByte dgs a).toNat+(indexByte dgs b).toNat) / 16=(indexByte dgs a).toNat by omega,show (16*(indexByte dgs a).toNat+(indexByte dgs b).toNat) % 16=(indexByte dgs b).toNat by omega,a2,b2]
theorem Jc9:∀l:List UInt8,(hexP l).length=2*l.length
 |[]=>rfl
 |b::r=>by show (hexP r).length+1+1=2*(r.length+1);rw [Jc9 r];omega
theorem Jni (l:List UInt8):unH (hexL l)=some l:=by
 unfold unH hexL;by_cases h:l=[]
 ·subst h;rfl
 ·rw [if_neg h]
  have h1:=Jc9 l;have h2:1≤l.length:=List.length_pos_iff.2 h;rw [if_neg (fun e=>by rw [e] at h1;simp at h1;omega),if_neg (fun e=>by rw [e] at h1;simp at h1;omega)];exact Jm9 l
theorem Jt1 {w l:List UInt8} (h:unH w=some l):hexL l=w:=by
 unfold unH at h;by_cases h1:w=[45]
 ·rw [if_pos h1] at h
  injection h with h;subst h;exact h1.symm
 ·rw [if_neg h1] at h
  by_cases h2:w=[]
  ·rw [if_pos h2] at h;cases h
  ·rw [if_neg h2] at h
   have h3:=Jml w l h;unfold hexL;rw [if_neg,h3];rintro rfl;exact h2 h3.symm
theorem Jfr {u:Nat} (h:u<10):decDigits u=[UInt8.ofNat (48+u)]:=by rw [decDigits,dif_pos h]
theorem Jm3 {u:Nat} (h:¬u<10):decDigits u=decDigits (u / 10)++[UInt8.ofNat (48+u % 10)]:=by rw [decDigits,dif_neg h]
theorem Jka:∀(l:List UInt8) (acc u:Nat) (c:UInt8),parseUint10 acc l= .ok u→48≤c.toNat→c.toNat≤57→u*10+(c.toNat - 48)<18446744073709551616→parseUint10 acc (l++[c])= .ok (u*10+(c.toNat - 48))
 |[],acc,u,c,h,h1,h2,h3=>by
  simp only [parseUint10] at h;injection h with h;subst h;simp only [List.nil_append,parseUint10];rw [if_pos ⟨h1,h2⟩,if_neg (by omega),if_neg (by omega)]
 |b::r,acc,u,c,h,h1,h2,h3=>by
  simp only [parseUint10,List.cons_append] at h ⊢;split at h
  ·rename_i hb
   rw [if_pos hb];split at h
   ·cases h
   ·rename_i hc
    rw [if_neg hc];split at h
    ·cases h
    ·rename_i hd
     rw [if_neg hd];exact Jka r _ u c h h1 h2 h3
  ·cases h
theorem Jnv (k:Nat) (h:k<10):(UInt8.ofNat (48+k)).toNat=48+k:=by rw [UInt8.toNat_ofNat'];omega
theorem Jnk:∀(n u:Nat),u<n→u<18446744073709551616→parseUint10 0 (decDigits u)= .ok u
 |0,u,h,_=>absurd h (Nat.not_lt_zero _)
 |n+1,u,h,hu=>by
  by_cases h1:u<10
  ·rw [Jfr h1]
   have e:=Jnv u h1;simp only [parseUint10,e];rw [if_pos (by omega),if_neg (by omega),if_neg (by omega)];congr 1;omega
  ·rw [Jm3 h1]
   have e:=Jnv (u % 10) (by omega);have ih:=Jnk n (u / 10) (by omega) (by omega);have:=Jka _ 0 _ (UInt8.ofNat (48+u % 10)) ih (by omega) (by omega) (by rw [e];omega);rw [this,e];congr 1;omega
theorem Jx0 (u:Nat):decDigits u≠[]:=fun h=>by
 have:=decDigits_length u;rw [h] at this;have:=nDigits_pos u;simp at*;omega
theorem Jdb:∀(n u:Nat),u<n→∀c∈decDigits u,48≤c.toNat∧c.toNat≤57
 |0,u,h=>absurd h (Nat.not_lt_zero _)
 |n+1,u,h=>fun c hc=>by
  by_cases h1:u<10
  ·rw [Jfr h1] at hc
   obtain rfl:c=UInt8.ofNat (48+u):=by simpa using hc
   rw [Jnv u h1];omega
  ·rw [Jm3 h1] at hc
   rcases List.mem_append.1 hc with hc |hc
   ·exact Jdb n (u / 10) (by omega) c hc
   ·obtain rfl:c=UInt8.ofNat (48+u % 10):=by simpa using hc
    rw [Jnv (u % 10) (by omega)];omega
theorem Jvp (u:Nat) (hu:u<18446744073709551616):parseMag (decDigits u)= .ok u:=by
 unfold parseMag;rw [if_neg (Jx0 u)];exact Jnk (u+1) u (Nat.lt_succ_self _) hu
theorem Jpm (n:Int) (h0: -9223372036854775808≤n) (h1:n≤9223372036854775807):atoiAll (itoa n)= .ok n:=by
 unfold itoa;by_cases h:n<0
 ·rw [if_pos h,atoiAll_minus,Jvp _ (by omega)]
  show (if _ then _ else _)=_;rw [if_neg (by omega)];congr 1;omega
 ·rw [if_neg h]
  obtain⟨c,r,hc⟩:=List.exists_cons_of_ne_nil (Jx0 n.toNat);have hd:=Jdb (n.toNat+1) n.toNat (Nat.lt_succ_self _) c (by rw [hc];exact List.mem_cons_self ..);have hm:=Jvp n.toNat (by omega);rw [hc] at hm ⊢;rw [atoiAll_plain c r (by omega) (by omega),hm];show (if _ then _ else _)=_;rw [if_neg (by omega)];congr 1;omega
def numP (w:List UInt8):Option Int:=match atoiAll w with
 | .ok v=>if itoa v=w then some v else none
 |_=>none
theorem Jb5 (n:Int) (h0: -9223372036854775808≤n) (h1:n≤9223372036854775807):numP (itoa n)=some n:=by
 unfold numP;rw [Jpm n h0 h1];exact if_pos rfl
theorem Jcw {w:List UInt8} {n:Int} (h:numP w=some n):itoa n=w∧ -9223372036854775808≤n∧n≤9223372036854775807:=by
 unfold numP at h;cases ha:atoiAll w with
 |ok v=>
  rw [ha] at h;have h:(if itoa v=w then some v else none)=some n:=h;by_cases hi:itoa v=w
  ·rw [if_pos hi] at h
   injection h with h;subst h;exact⟨hi,atoiAll_bounds ha⟩
  ·rw [if_neg hi] at h;cases h
 |range=>rw [ha] at h;cases h
 |_=>rw [ha] at h;cases h
theorem Jec (n:Int):32 ∉ itoa n:=by
 unfold itoa;split
 ·intro h
  rcases List.mem_cons.1 h with h |h
  ·revert h;decide
  ·have:=Jdb (n.natAbs+1) n.natAbs (Nat.lt_succ_self _) _ h
   revert this;decide
 ·intro h
  have:=Jdb (n.toNat+1) n.toNat (Nat.lt_succ_self _) _ h;revert this;decide

def cutL (l:List UInt8):List UInt8×List UInt8×Bool:=cut l [32]
theorem Jnn {l:List UInt8} {i:Nat} (h:occAt l [32] i=true):∃t,l.drop i=32::t:=by
 unfold occAt at h;rcases hd:l.drop i with _ |⟨c,t⟩
 ·rw [hd] at h;cases h
 ·rw [hd] at h
  have:(32==c)=true:=by simpa [List.isPrefixOf] using h
  exact⟨t,by rw [←eq_of_beq this]⟩
theorem Jpz {l a b:List UInt8} (h:cutL l=(a,b,true)):l=a++32::b:=by
 unfold cutL cut at h;rcases index_spec l [32] with⟨h1,_⟩ |⟨i,h1,h2,h3,_⟩
 ·rw [h1,if_neg (by decide)] at h
  cases h
 ·rw [h1,if_pos (by omega)] at h
  obtain⟨t,ht⟩:=Jnn h3;simp only [Prod.mk.injEq,Int.toNat_natCast,List.length_singleton,and_true] at h;obtain⟨rfl,rfl⟩:=h;have e:l.drop (i+1)=t:=by rw [←List.drop_drop,ht];rfl
  rw [e,←ht,List.take_append_drop]
theorem Jit (a b:List UInt8) (h:32 ∉ a):cutL (a++32::b)=(a,b,true):=by
 unfold cutL cut;have hi:index (a++32::b) [32]=(a.length:Int):=by
  refine index_first (by simp) (by unfold occAt;rw [List.drop_left];simp [List.isPrefixOf]) fun j hj=>?_;rw [Bool.eq_false_iff];intro ho;obtain⟨t,ht⟩:=Jnn ho;have h1:(a++32::b)[j]?=some 32:=by
   have:=congrArg (·[0]?) ht;simpa using this
  rw [List.getElem?_append_left hj] at h1;exact h (List.mem_of_getElem? h1)
 rw [hi,if_pos (by omega)];simp
theorem Jrp {l a b:List UInt8} (h:cutL l=(a,b,false)):a=l∧b=[]:=by
 unfold cutL cut at h;split at h
 ·cases h
 ·injection h with h1 h2
  injection h2 with h2 _;exact⟨h1.symm,h2.symm⟩

structure Op where
 K:Int
 P:List UInt8
 O:Int
 N:Int
 I:Int
 G:List UInt8
 deriving DecidableEq
def wds:List (List UInt8):=[[],[108,111,111,107,117,112],[115,116,97,116],[114,101,97,100,108,105,110,107],[114,101,97,100],[111,112,101,110],[112,97,103,101],[99,108,111,115,101],[97,100,100],[114,101,109,111,118,101]]
def wordL (k:Int):List UInt8:=if k<0∨10≤k then [] else wds.getD k.toNat []
def kindL (w:List UInt8):Int:=((wds.findIdx? (·==w)).getD 0:Nat)
def toldM (o:Op):Op:=
 if o.K=4 then ⟨o.K,o.P,o.O,o.N,0,[]⟩ else if o.K=6 then ⟨o.K,[],0,o.N,o.I,[]⟩ else if o.K=7∨o.K=9 then ⟨o.K,[],0,0,o.I,[]⟩ else if o.K=8 then ⟨o.K,[],0,0,0,o.G⟩ else ⟨o.K,o.P,0,0,0,[]⟩
def rightM (o:Op):Bool:=decide (wordL o.K≠[])&&(!decide (10∈o.P))&&decide (o=toldM o)
def restM (o:Op):List (List UInt8):=
 if o.K=4 then [itoa o.O,itoa o.N,o.P] else if o.K=6 then [itoa o.I,itoa o.N] else if o.K=7∨o.K=9 then [itoa o.I] else if o.K=8 then [hexL o.G] else [o.P]
def joinM:List (List UInt8)→List UInt8
 |[]=>[]
 |[a]=>a
 |a::b::r=>a++32::joinM (b::r)
def textM (o:Op):List UInt8:=if wordL o.K=[] then [] else joinM (wordL o.K::restM o)
def numsM (a b:List UInt8):Option (Int×Int):=match numP a,numP b with
 |some x,some y=>some (x,y)
 |_,_=>none
def readM (k:Int) (s:List UInt8):Option Op:=
 if k=4 then (if (cutL (cutL s).2.1).2.2 then (numsM (cutL s).1 (cutL (cutL s).2.1).1).map fun x=>⟨k,(cutL (cutL s).2.1).2.1,x.1,x.2,0,[]⟩ else none)
 else if k=6 then (numsM (cutL s).1 (cutL s).2.1).map fun x=>⟨k,[],0,x.2,x.1,[]⟩
 else if k=7∨k=9 then (numP s).map fun x=>⟨k,[],0,0,x,[]⟩
 else if k=8 then (unH s).map fun x=>⟨k,[],0,0,0,x⟩
 else some ⟨k,s,0,0,0,[]⟩
def parseM (l:List UInt8):Option Op:=
 if (cutL l).2.2 then (match readM (kindL (cutL l).1) (cutL l).2.1 with
   |some o=>if rightM o then some o else none
   |none=>none) else none
def onlyM (o:Op):Bool:=
 !decide (10∈o.P)&&(
   if o.K=1∨o.K=2∨o.K=3∨o.K=5 then decide (o.O=0)&&decide (o.N=0)&&decide (o.I=0)&&decide (o.G=[])
   else if o.K=4 then decide (o.I=0)&&decide (o.G=[])
   else if o.K=6 then decide (o.P=[])&&decide (o.O=0)&&decide (o.G=[])
   else if o.K=7∨o.K=9 then decide (o.P=[])&&decide (o.O=0)&&decide (o.N=0)&&decide (o.G=[])
   else if o.K=8 then decide (o.P=[])&&decide (o.O=0)&&decide (o.N=0)&&decide (o.I=0)
   else false)
theorem Je0 (k:Int):(k=1∨k=2∨k=3∨k=4∨k=5∨k=6∨k=7∨k=8∨k=9)∨wordL k=[]∧¬(1≤k∧k≤9):=by
 by_cases h:1≤k∧k≤9
 ·left;omega
 ·right
  refine⟨?_,h⟩;unfold wordL;split
  ·rfl
  ·obtain rfl:k=0:=by omega
   rfl
theorem Jks (k:Int) (h:1≤k∧k≤9):kindL (wordL k)=k∧32 ∉ wordL k∧wordL k≠[]:=by
 have:k=1∨k=2∨k=3∨k=4∨k=5∨k=6∨k=7∨k=8∨k=9:=by omega
 rcases this with rfl |rfl |rfl |rfl |rfl |rfl |rfl |rfl |rfl<;>decide
theorem Jeo (a b:List UInt8):joinM [a,b]=a++32::b:=rfl
theorem Jgy (a b c:List UInt8):joinM [a,b,c]=a++32::(b++32::c):=rfl
theorem Jok (a b c d:List UInt8):joinM [a,b,c,d]=a++32::(b++32::(c++32::d)):=rfl
def Op.fit (o:Op):Prop:=(-9223372036854775808≤o.O∧o.O≤9223372036854775807)∧(-9223372036854775808≤o.N∧o.N≤9223372036854775807)∧(-9223372036854775808≤o.I∧o.I≤9223372036854775807)
theorem Jn0 (o:Op) (hr:rightM o=true) (hf:o.fit):parseM (textM o)=some o:=by
 obtain⟨⟨o0,o1⟩,⟨n0,n1⟩,⟨i0,i1⟩⟩:=hf;have hr':=hr;unfold rightM at hr';simp only [Bool.and_eq_true,decide_eq_true_eq] at hr';obtain⟨⟨hw,_⟩,ht⟩:=hr';have hk:1≤o.K∧o.K≤9:=by
  rcases Je0 o.K with h |⟨h,_⟩
  ·omega
  ·exact absurd h hw
 obtain⟨hk1,hk2,hk3⟩:=Jks o.K hk;have key:∀s,textM o=wordL o.K++32::s→readM o.K s=some o→parseM (textM o)=some o:=fun s h1 h2=>by
  unfold parseM;rw [h1,Jit _ _ hk2];simp only [hk1,h2,if_true,hr]
 unfold textM at key ⊢;rw [if_neg hk3] at key ⊢;unfold toldM at ht;unfold restM at key ⊢;by_cases h4:o.K=4
 ·rw [if_pos h4] at key ht ⊢
  refine key _ (Jok _ _ _ _) ?_;unfold readM;rw [if_pos h4,Jit _ _ (Jec _)];simp only;rw [Jit _ _ (Jec _)];simp only [numsM,Jb5 _ o0 o1,Jb5 _ n0 n1,if_true,Option.map_some];rw [←ht]
 rw [if_neg h4] at key ht ⊢;by_cases h6:o.K=6
 ·rw [if_pos h6] at key ht ⊢
  refine key _ (Jgy _ _ _) ?_;unfold readM;rw [if_neg h4,if_pos h6,Jit _ _ (Jec _)];simp only [numsM,Jb5 _ i0 i1,Jb5 _ n0 n1,Option.map_some];rw [←ht]
 rw [if_neg h6] at key ht ⊢;by_cases h7:o.K=7∨o.K=9
 ·rw [if_pos h7] at key ht ⊢
  refine key _ (Jeo _ _) ?_;unfold readM;rw [if_neg h4,if_neg h6,if_pos h7,Jb5 _ i0 i1,Option.map_some,←ht]
 rw [if_neg h7] at key ht ⊢;by_cases h8:o.K=8
 ·rw [if_pos h8] at key ht ⊢
  refine key _ (Jeo _ _) ?_;unfold readM;rw [if_neg h4,if_neg h6,if_neg h7,if_pos h8,Jni,Option.map_some,←ht]
 rw [if_neg h8] at key ht ⊢;refine key _ (Jeo _ _) ?_;unfold readM;rw [if_neg h4,if_neg h6,if_neg h7,if_neg h8,←ht]
end Go.Proofs.YtekekhgjobahaaaGreatDoor.cal

namespace Go.Proofs.YtekekhgjobahaaaGreatDoor.cal
open Go.RowKit words

structure Env (m:Int) (w:World):Prop where
 tab:Lib.TabIs prog w "internal/strconv.uint64pow10" .u64 Lib.pow10Tab
 syn:∃tp p,w.var? prog "strconv.ErrSyntax" =some #[.iface tp p]
 rng:∃tp p,w.var? prog "strconv.ErrRange" =some #[.iface tp p]
 max:w.cell? ⟨1,0,none⟩=some (.int .i64 m)
 wds:∀(i:Nat) x,wds[i]?=some x→w.cell? ⟨0,i,none⟩=some (.string ⟨x.toArray⟩)
theorem Jao {w w':World} {a:Addr} {v:Value} (h:w.cell? a=some v) (hb:Below w.heap.size w w'):w'.cell? a=some v:=by
 have hlt:a.block<w.heap.size:=by
  unfold World.cell? at h;rcases Nat.lt_or_ge a.block w.heap.size with hl |hl
  ·exact hl
  ·rw [Array.getElem?_eq_none hl] at h;simp at h
 exact (World.cell?_of_block (hb.block _ hlt)).trans h
theorem Jg0 {w w':World} {P:Program} {n:String} {cs:Array Value} (h:w.var? P n=some cs) (hb:Below w.heap.size w w'):w'.var? P n=some cs:=by
 unfold World.var? at h ⊢;cases hg:P.globalNamed n with
 |none=>rw [hg] at h;cases h
 |some g=>
  rw [hg] at h;simp only [Option.bind_some] at h ⊢;have hlt:g<w.heap.size:=by
   rcases Nat.lt_or_ge g w.heap.size with hl |hl
   ·exact hl
   ·rw [Array.getElem?_eq_none hl] at h;simp at h
  rw [hb.block g hlt];exact h
theorem Env.later {m:Int} {w w':World} (h:Env m w) (hb:Below w.heap.size w w'):Env m w':=
 ⟨Jg0 h.tab hb,h.syn.imp fun _ ⟨p,hp⟩=>⟨p,Jg0 hp hb⟩,h.rng.imp fun _ ⟨p,hp⟩=>⟨p,Jg0 hp hb⟩,Jao h.max hb,fun i x hx=>Jao (h.wds i x hx) hb⟩
theorem Env.drew {m:Int} {w:World} (h:Env m w) (n:Nat):Env m (w.drewN n):=h.later ⟨rfl,rfl,rfl,Nat.le_refl _,fun _ _=>rfl⟩
theorem size_list (s:ByteArray):s.data.toList.length=s.size:=by rw [Array.length_toList];rfl
theorem Ja7 (s:ByteArray) (k:Nat) (h:k<s.size):s.data.toList.take (k+1)=s.data.toList.take k++[s[k]]:=by
 rw [List.take_succ_eq_append_getElem (by simpa using h)];rfl
theorem to_list (s:ByteArray):s.toList=s.data.toList:=ByteArray.toList_eq s
theorem Jbd {a b:ByteArray} (h:a.data.toList=b.data.toList):a=b:=by
 obtain⟨x⟩:=a;obtain⟨y⟩:=b;have:x=y:=by simpa using h
 rw [this]
theorem Ja9 (l:List UInt8):(⟨l.toArray⟩:ByteArray).data.toList=l:=by simp
theorem Jd5 (a b:ByteArray):(a++b).data.toList=a.data.toList++b.data.toList:=by simp

def Bld (B b:Nat) (l:List UInt8) (w:World):Prop:=Lib.BuilderAt 100 5 B b (.pointer (some ⟨b,0,none⟩)) (Lib.byteCells l) w
theorem info5:(Tryz.prog.info? 5).map (fun i=>(i.zero,i.size,i.bytes))=some (some (.int .u8 0),1,1):=by kernel_rfl
theorem sizeBuilder:(Tryz.prog.info? 100).map (fun i=>i.size)=some 2:=by kernel_rfl
theorem Jhs (b:Nat) (w:World) (h:w.cell? ⟨b,0,none⟩=some (.pointer (some ⟨b,0,none⟩))):
  Calls prog 68 #[.pointer (some ⟨b,0,none⟩)] w fun e w'=>e= .returned (.tuple #[])∧w=w':=by
 obtain⟨j,hj,_⟩:=Option.map_eq_some_iff.1 sizeBuilder;go_enter func68,ntmps68
 go_wp2
 rw [Lib.run_neq_ptr_same w _ underlying98 hj];go_wp2
 go_end0
 exact⟨rfl,rfl⟩
theorem Je2 (B b:Nat) (l:List UInt8) (c:UInt8) (w:World) (h:Bld B b l w) (hlen:l.length≤4000000000) (hBw:B≤w.heap.size):
  Calls prog 57 #[.pointer (some ⟨b,0,none⟩),.int .u8 (c.toNat:Int)] w fun e w'=>e= .returned .nilIface∧Bld B b (l++[c]) w'∧Below B w w':=by
 obtain⟨i0,hi,hz0,hz1,hz2⟩:=info_parts info5;obtain⟨hB,v,hbk,hown,hne⟩:=h;have c0:w.cell? ⟨b,0,none⟩=some (.pointer (some ⟨b,0,none⟩)):=by rw [Lib.cell_of_heap hbk];rfl
 have c1:w.cell? ⟨b,1,none⟩=some v:=by rw [Lib.cell_of_heap hbk];rfl
 have hbl:(Lib.byteCells l).length=l.length:=by simp [Lib.byteCells]
 rw [hbl] at hown;have HC:=hid (Jhs b w c0);have HO:=hid hown;have HK:=hid hbk;have HN:=hid hne;have HBw:=hid hBw;clear hbl hown hbk hne;go_enter func57,ntmps57
 go_wp2_with fail
 refine HC.out.mono ?_;rintro e w1 ⟨rfl,rfl⟩;clear HC;go_wp2_with (at_builtin;refine wpList_append_own _ rfl _ _ 94 rfl B 5 i0 (.int .u8 0) 1 1 underlying94 hi hz0 hz1 hz2 rfl (by decide) _ _ _ rfl (HO.out.alloc _) ⟨w.heap.size,0,none⟩ 1 1 [.int .u8 (c.toNat:Int)] rfl rfl ?c1 ?c2 ?c3 ?c4 ?c5 ?_)
 case c1=>
  intro j u hj
  match j,hj with
  |0,hj=>simp at hj;subst hj;simp [Addr.add]
 case c2=>intro u hu;simp at hu;subst hu;rfl
 case c3=>unfold maxLen;omega
 case c4=>omega
 case c5=>have:=HBw.out;simp;omega
 intro v' w2 hown' hgrow _;have hlt:b<w.heap.size:=lt_of_some HK.out;have hb2:w2.heap[b]?=some (.cells #[.pointer (some ⟨b,0,none⟩),v] 100 (0,0)):=by
  rw [hgrow.block b (by simp;omega) (fun e=>HN.out e.symm),Lib.alloc_old w _ b hlt];exact HK.out
 have d0:w2.cell? ⟨b,0,none⟩=some (.pointer (some ⟨b,0,none⟩)):=by rw [Lib.cell_of_heap hb2];rfl
 have d1:w2.cell? ⟨b,1,none⟩=some v:=by rw [Lib.cell_of_heap hb2];rfl
 have f1:w2.frozen? ⟨b,1,none⟩=false:=Lib.frozen_of_heap hb2 1;obtain⟨g,cap,rfl⟩:∃g cap,v'= .slice (some ⟨g,0,none⟩) (l.length+1) cap:=by
  rcases hown'.2 with⟨_,h0⟩ |⟨g,cap,cur,hv,_⟩
  ·omega
  ·exact⟨g,cap,hv⟩
 have hend:Bld B b (l++[c]) (w2.setCell ⟨b,1,none⟩ (.slice (some ⟨g,0,none⟩) (l.length+1) cap))∧Below B w (w2.setCell ⟨b,1,none⟩ (.slice (some ⟨g,0,none⟩) (l.length+1) cap)):=by
  refine⟨?_,?_⟩
  ·refine Lib.BuilderAt.put (T:=100) (e:=5) hB hb2 (bs':=Lib.byteCells (l++[c])) ?_ (by decide)
   have e:Lib.byteCells (l++[c])=Lib.byteCells l++[.int .u8 (c.toNat:Int)]:=by simp [Lib.byteCells]
   rw [e];have e2:(Lib.byteCells l++[Value.int .u8 (c.toNat:Int)]).length=l.length+1:=by simp [Lib.byteCells]
   rw [e2];exact hown'
  ·exact (((Below.refl B w).alloc HBw.out _).grown hgrow (by have:=HBw.out;simp;omega) (fun k hk=>(HO.out.lt k hk).1)).setCell (p:=⟨b,1,none⟩) hB _
 have HE:=hid hend;clear hown' hgrow hb2 hend hlt;go_wp2
 go_ret
 exact⟨rfl,HE.out⟩
theorem Jbn (B b:Nat) (l:List UInt8) (w:World) (h:Bld B b l w) (hBw:B≤w.heap.size):
  Calls prog 30 #[.pointer (some ⟨b,0,none⟩)] w fun e w'=>e= .returned (.string ⟨l.toArray⟩)∧Below B w w':=Tryz.Builder_String_any B b l w (.inr h) hBw
theorem Jmt (n:Nat) (w W:World) (hW:W=w.alloc (.cells #[.pointer none,.slice none 0 0] 100)) (hn:n≤281474976710656):
  Calls prog 58 #[.pointer (some ⟨w.heap.size,0,none⟩),.int .i64 (n:Int)] W fun e w'=>e= .returned (.tuple #[])∧Bld w.heap.size w.heap.size [] w'∧Below w.heap.size W w':=by
 subst hW;exact Tryz.Builder_Grow_fresh w.heap.size w.heap.size n _ (Nat.le_refl _) (heap_alloc_new w _) (by simp) hn

def digB:ByteArray:=⟨#[48,49,50,51,52,53,54,55,56,57,97,98,99,100,101,102]⟩
theorem Jgg:digB.size=16:=by decide+kernel
theorem Jwo:∀i:Fin 16,(digB.data.toList.drop i.val).take 1=[hexD i.val]:=by decide+kernel
theorem Ju8 (i:Nat) (hi:i<digB.size):digB[i]=hexD i:=by
 have h16:i<16:=by rw [Jgg] at hi;exact hi
 have h:=Jwo ⟨i,h16⟩;have h':i<digB.data.toList.length:=by rw [size_list];exact hi
 rw [List.drop_eq_getElem_cons h'] at h;simp only [List.take_succ_cons,List.take_zero,List.cons.injEq,and_true] at h;rw [←h];rfl
theorem Jho {P:Program} (t:TypeId) (ht:P.underlying t=some .string) (k:IntKind) (z:Int) (i:Nat) (hz:z=(i:Int)) (hi:i<16) (w:World):
  (Instr.index t (.string ⟨#[48,49,50,51,52,53,54,55,56,57,97,98,99,100,101,102]⟩) (.int k z)).run P w= .ok (.int .u8 ((hexD i).toNat:Int)) w:=by
 subst hz;show (Instr.index t (.string digB) (.int k (i:Int))).run P w=_;rw [run_index_string w t digB k _ ht,dif_pos ⟨by omega,by rw [Jgg];omega⟩];have e:((i:Int)).toNat=i:=by omega
 simp only [e];rw [Ju8 i (by rw [Jgg];exact hi)]
theorem Jqk (l:List UInt8) (b:UInt8):hexP (l++[b])=hexP l++[hexD (b.toNat / 16),hexD (b.toNat % 16)]:=by
 induction l with
 |nil=>rfl
 |cons a l ih=>simp only [List.cons_append,hexP,ih]
theorem Jww (s:ByteArray) (w:World) (hs:s.size≤1000000000):
  Calls prog 28 #[.string s] w fun e w'=>(∃r:ByteArray,e= .returned (.string r)∧r.data.toList=hexL s.data.toList)∧Below w.heap.size w w':=by
 by_cases e0:s.data.toList=[]
 ·have f0:s.toList.isEmpty=true:=by rw [to_list,e0];rfl
  have HE:=hid (show hexL s.data.toList=[45] by rw [e0];rfl);clear e0;go_enter func28,ntmps28
  go_wp2
  go_ret
  exact⟨⟨_,rfl,HE.out.symm⟩,Below.refl _ _⟩
 ·have f0:s.toList.isEmpty=false:=by rw [to_list];simpa using e0
  have HE:=hid (show hexL s.data.toList=hexP s.data.toList by unfold hexL;rw [if_neg e0]);clear e0;obtain⟨W1,hW1⟩:=words.nm (w.alloc (.cells #[.pointer none,.slice none 0 0] 100));have hb1:=words.b1 hW1;have hg:=Jmt (2*s.size) w W1 hW1 (by omega);rw [show ((2*s.size:Nat):Int)=2*(s.size:Int) by omega] at hg;have HG:=hid hg;have HB1:=hid hb1;have HW1:=hid hW1.symm;clear hW1 hb1 hg;go_enter func28,ntmps28
  go_wp2_with fail
  rw [HW1.out];refine HG.out.mono ?_;rintro e w2 ⟨rfl,hbl2,hb2⟩;have H0:Hid (Bld w.heap.size w.heap.size (hexP (s.data.toList.take 0)) w2∧Below w.heap.size w w2):=hid ⟨hbl2,HB1.out.trans hb2⟩;clear HG HW1 hbl2 hb2 HB1;go_wp2_with fail
  go_loopw [13] (fun v wr=>∃k:Nat,k≤s.size∧v= .int .i64 (k:Int)∧Hid (Bld w.heap.size w.heap.size (hexP (s.data.toList.take k)) wr∧Below w.heap.size w wr)) (fun v _=>s.size - (intOf v).toNat)
  case atStart=>exact⟨0,Nat.zero_le _,rfl,H0⟩
  case round=>
   clear H0;obtain⟨k,hk,rfl,hH⟩:=hrel;have k0:(0:Int)≤(k:Int):=by omega
   by_cases hks:k<s.size
   ·have k1:(k:Int)<(s.size:Int):=by omega
    have hx:=s[k].toNat_lt;have HX:=hid (show hexP (s.data.toList.take (k+1))=hexP (s.data.toList.take k)++[hexD (s[k].toNat / 16)]++[hexD (s[k].toNat % 16)] by rw [Ja7 s k hks,Jqk,List.append_assoc];rfl);have hd1:∀w':World,(Instr.index 9 (.string ⟨#[48,49,50,51,52,53,54,55,56,57,97,98,99,100,101,102]⟩) (.int .u8 ((s[k].toNat:Int) / 16))).run prog w'= .ok (.int .u8 ((hexD (s[k].toNat / 16)).toNat:Int)) w':=Jho _ underlying9 .u8 _ (s[k].toNat / 16) (by omega) (by omega);have HB:=hid (Je2 w.heap.size w.heap.size _ (hexD (s[k].toNat / 16)) wr hH.out.1 (by rw [Jc9,List.length_take,size_list];omega) hH.out.2.size);go_wp2_with fail
    refine HB.out.mono ?_;rintro e w3 ⟨rfl,hbl3,hb3⟩;have HB3:=hid (hH.out.2.trans hb3);have HL3:=hid (Je2 w.heap.size w.heap.size _ (hexD (s[k].toNat % 16)) w3 hbl3 (by rw [List.length_append,Jc9,List.length_take,size_list];simp;omega) HB3.out.size);clear hbl3 hb3 HB hd1;have hd2:∀w':World,(Instr.index 9 (.string ⟨#[48,49,50,51,52,53,54,55,56,57,97,98,99,100,101,102]⟩) (.int .u8 ((s[k].toNat:Int) % 16))).run prog w'= .ok (.int .u8 ((hexD (s[k].toNat % 16)).toNat:Int)) w':=Jho _ underlying9 .u8 _ (s[k].toNat % 16) (by omega) (by omega);go_wp2_with fail
    refine HL3.out.mono ?_;rintro e w4 ⟨rfl,hbl4,hb4⟩;rw [←HX.out] at hbl4;have H4:=hid (And.intro hbl4 (HB3.out.trans hb4));clear hbl4 hb4 HL3 hd2;go_wp2_with fail
    go_roundw
    case rel=>exact⟨k+1,by omega,by go_num,H4⟩
    case measure=>simp [intOf];omega
   ·have k1:¬(k:Int)<(s.size:Int):=by omega
    obtain rfl:k=s.size:=by omega
    have h1:=hH.out.1;rw [List.take_of_length_le (by rw [size_list];exact Nat.le_refl _)] at h1;have HS:=hid (Jbn _ _ _ wr h1 hH.out.2.size);clear h1;go_wp2_with fail
    refine HS.out.mono ?_;rintro e w5 ⟨rfl,hb5⟩;have HF:=hid (hH.out.2.trans hb5);obtain⟨r,hr⟩:∃r:ByteArray,r=⟨(hexP s.data.toList).toArray⟩:=⟨_,rfl⟩
    rw [←hr];have HR:=hid hr;clear hr hb5 HS;go_wp2_with fail
    go_ret
    exact⟨⟨r,rfl,by rw [HR.out,HE.out,Ja9]⟩,HF.out⟩

theorem Jf4 (c:UInt8) (w:World):Calls prog 109 #[.string ⟨#[48,49,50,51,52,53,54,55,56,57,97,98,99,100,101,102]⟩,.int .u8 (c.toNat:Int)] w fun e w'=>e= .returned (.int .i64 (Lib.indexByte dgs c))∧w'=w:=by
 refine (Tryz.strings_IndexByte _ _ w).mono fun e w' ⟨h1,h2⟩=>⟨?_,h2⟩
 rw [h1];have:((c.toNat:Int)).toNat.toUInt8=c:=by simp
 rw [this];rfl
theorem Jnu (a b:UInt8) (r:List UInt8):unP (a::b::r)=if Lib.indexByte dgs a<0∨Lib.indexByte dgs b<0 then none else (unP r).map (UInt8.ofNat (16*(Lib.indexByte dgs a).toNat+(Lib.indexByte dgs b).toNat)::·):=rfl
theorem Jqt:∀(l:List UInt8) (a b:UInt8) (r:List UInt8),unP l=some r→(0≤Lib.indexByte dgs a∧0≤Lib.indexByte dgs b)→unP (l++[a,b])=some (r++[UInt8.ofNat (16*(Lib.indexByte dgs a).toNat+(Lib.indexByte dgs b).toNat)])
 |[],a,b,r,h,hab=>by
  injection h with h;subst h;show (if _ then _ else _)=_;rw [if_neg (by omega)];rfl
 |[_],_,_,_,h,_=>by cases h
 |x::y::l,a,b,r,h,hab=>by
  have h:(if Lib.indexByte dgs x<0∨Lib.indexByte dgs y<0 then none else (unP l).map (UInt8.ofNat (16*(Lib.indexByte dgs x).toNat+(Lib.indexByte dgs y).toNat)::·))=some r:=h;split at h
  ·cases h
  ·rename_i hn
   obtain⟨t,ht,rfl⟩:=Option.map_eq_some_iff.1 h;have ih:=Jqt l a b t ht hab;rw [List.cons_append,List.cons_append,Jnu,if_neg hn,ih];rfl
theorem Jlx:∀(l:List UInt8) (a b:UInt8) (t r:List UInt8),unP l=some r→(Lib.indexByte dgs a<0∨Lib.indexByte dgs b<0)→unP (l++a::b::t)=none
 |[],a,b,t,r,_,hab=>by
  show (if _ then _ else _)=_;rw [if_pos hab]
 |[_],_,_,_,_,h,_=>by cases h
 |x::y::l,a,b,t,r,h,hab=>by
  have h:(if Lib.indexByte dgs x<0∨Lib.indexByte dgs y<0 then none else (unP l).map (UInt8.ofNat (16*(Lib.indexByte dgs x).toNat+(Lib.indexByte dgs y).toNat)::·))=some r:=h;split at h
  ·cases h
  ·rename_i hn
   obtain⟨u,hu,rfl⟩:=Option.map_eq_some_iff.1 h;have ih:=Jlx l a b t u hu hab;rw [List.cons_append,List.cons_append,Jnu,if_neg hn,ih];rfl
theorem Jso:∀l:List UInt8,l.length % 2=1→unP l=none
 |[],h=>by cases h
 |[_],_=>rfl
 |a::b::r,h=>by
  have ih:=Jso r (by simp only [List.length_cons] at h;omega);show (if _ then _ else _)=_;rw [ih];split<;>rfl
theorem Jmq (s:ByteArray) (k:Nat) (h:k+1<s.size):s.data.toList.take (k+2)=s.data.toList.take k++[s[k],s[k+1]]:=by
 rw [Ja7 s (k+1) h,Ja7 s k (by omega),List.append_assoc];rfl
theorem Ji8 (s:ByteArray) (k:Nat) (h:k+1<s.size):s.data.toList=s.data.toList.take k++s[k]::s[k+1]::s.data.toList.drop (k+2):=by
 have h1:s.data.toList=s.data.toList.take (k+2)++s.data.toList.drop (k+2):=(List.take_append_drop _ _).symm;rw [Jmq s k h,List.append_assoc] at h1;exact h1
theorem Jp2 (x y:Int) (h0:0≤x) (h1:x<16) (h2:0≤y) (h3:y<16):bits .or .i64 (x*16) y=16*x+y:=by
 have:∀a b:Fin 16,bits .or .i64 ((a.val:Int)*16) (b.val:Int)=16*(a.val:Int)+(b.val:Int):=by decide+kernel
 have:=this ⟨x.toNat,by omega⟩ ⟨y.toNat,by omega⟩;simp only [Int.toNat_of_nonneg h0,Int.toNat_of_nonneg h2] at this;exact this
def BytesOut (l:List UInt8) (e:Ending):Prop:=(unH l=none∧e= .returned (.tuple #[.string ⟨#[]⟩,.bool false]))∨(∃r:ByteArray,unH l=some r.data.toList∧e= .returned (.tuple #[.string r,.bool true]))
theorem Jjy (s:ByteArray) (w:World) (hs:s.size≤1000000000):
  Calls prog 72 #[.string s] w fun e w'=>BytesOut s.data.toList e∧Below w.heap.size w w':=by
 by_cases e0:s.data.toList=[45]
 ·have f0:(s.toList==[45])=true:=by rw [to_list,e0];rfl
  have HF:=hid (show BytesOut s.data.toList (.returned (.tuple #[.string ⟨#[]⟩,.bool true])) from .inr ⟨⟨#[]⟩,by rw [e0];rfl,rfl⟩);clear e0;go_enter func72,ntmps72
  go_wp2
  go_ret2
  exact⟨HF.out,Below.refl _ _⟩
 have f0:(s.toList==[45])=false:=by rw [to_list];simpa using e0
 by_cases e1:s.data.toList=[]
 ·have f1:s.toList.isEmpty=true:=by rw [to_list,e1];rfl
  have HF:=hid (show BytesOut s.data.toList (.returned (.tuple #[.string ⟨#[]⟩,.bool false])) from .inl ⟨by rw [e1];rfl,rfl⟩);clear e0 e1;go_enter func72,ntmps72
  go_wp2
  go_ret2
  exact⟨HF.out,Below.refl _ _⟩
 have f1:s.toList.isEmpty=false:=by rw [to_list];simpa using e1
 have HU:=hid (show unH s.data.toList=unP s.data.toList by unfold unH;rw [if_neg e0,if_neg e1]);clear e0 e1;obtain⟨q,hq⟩:∃q:Int,q=(s.size:Int) % 2:=⟨_,rfl⟩
 have q1:(s.size:Int) % 2=q:=hq.symm;have q2:Int.tmod (s.size:Int) 2=q:=by rw [hq];exact Int.tmod_eq_emod_of_nonneg (by omega)
 by_cases ho:s.size % 2=1
 ·obtain rfl:q=1:=by omega
  have HF:=hid (show BytesOut s.data.toList (.returned (.tuple #[.string ⟨#[]⟩,.bool false])) from .inl ⟨by rw [HU.out,Jso _ (by rw [size_list];exact ho)],rfl⟩);clear hq ho;go_enter func72,ntmps72
  go_wp2
  go_ret2
  exact⟨HF.out,Below.refl _ _⟩
 obtain rfl:q=0:=by omega
 clear hq;have HEv:Hid (s.size % 2=0):=hid (by omega);clear ho;obtain⟨W1,hW1⟩:=words.nm (w.alloc (.cells #[.pointer none,.slice none 0 0] 100));have hb1:=words.b1 hW1;have hg:=Jmt (s.size / 2) w W1 hW1 (by omega);have HG:=hid hg;have HB1:=hid hb1;have HW1:=hid hW1.symm;clear hW1 hb1 hg;go_enter func72,ntmps72
 go_wp2_with fail
 rw [HW1.out];refine HG.out.mono ?_;rintro e w2 ⟨rfl,hbl2,hb2⟩;have H0:Hid (∃r:List UInt8,unP (s.data.toList.take 0)=some r∧r.length≤0∧Bld w.heap.size w.heap.size r w2∧Below w.heap.size w w2):=hid ⟨[],rfl,Nat.le_refl _,hbl2,HB1.out.trans hb2⟩;clear HG HW1 hbl2 hb2 HB1;go_wp2_with fail
 go_loopw [5] (fun v wr=>∃k:Nat,k≤s.size∧v= .int .i64 (k:Int)∧Hid (k % 2=0)∧Hid (∃r:List UInt8,unP (s.data.toList.take k)=some r∧r.length≤k∧Bld w.heap.size w.heap.size r wr∧Below w.heap.size w wr)) (fun v _=>s.size - (intOf v).toNat)
 case atStart=>exact⟨0,Nat.zero_le _,rfl,hid rfl,H0⟩
 case round=>
  clear H0;obtain⟨k,hk,rfl,hpar,hH⟩:=hrel;have k0:(0:Int)≤(k:Int):=by omega
  by_cases hks:k<s.size
  ·have k1:(k:Int)<(s.size:Int):=by omega
   have hks1:k+1<s.size:=by have:=hpar.out;have:=HEv.out;omega
   have k2:(k:Int)+1<(s.size:Int):=by omega
   have k3:(0:Int)≤(k:Int)+1:=by omega
   obtain⟨x,hx⟩:=words.nm (Lib.indexByte dgs s[k]);obtain⟨y,hy⟩:=words.nm (Lib.indexByte dgs s[k+1]);have HI:Hid (∀w':World,Calls prog 109 #[.string ⟨#[48,49,50,51,52,53,54,55,56,57,97,98,99,100,101,102]⟩,.int .u8 (s[k].toNat:Int)] w' fun e w''=>e= .returned (.int .i64 x)∧w''=w'):=hid fun w'=>by rw [hx];exact Jf4 _ w'
   have HJ:Hid (∀w':World,Calls prog 109 #[.string ⟨#[48,49,50,51,52,53,54,55,56,57,97,98,99,100,101,102]⟩,.int .u8 (s[k+1].toNat:Int)] w' fun e w''=>e= .returned (.int .i64 y)∧w''=w'):=hid fun w'=>by rw [hy];exact Jf4 _ w'
   have hxc:=undig s[k];have hyc:=undig s[k+1];rw [←hx] at hxc;rw [←hy] at hyc;have HX:=hid hx;have HY:=hid hy;have HXc:=hid hxc;have HYc:=hid hyc;clear hx hy hxc hyc;go_wp2_with fail
   go_quiet (first |(go_at_call 109;with_reducible exact Calls.quiet_of_same (HI.out _)) |(go_at_call 109;with_reducible exact Calls.quiet_of_same (HJ.out _)))
   obtain⟨w3,hw3⟩:=words.nm (wr.drewN nq);rw [←hw3];have hH3:∃r:List UInt8,unP (s.data.toList.take k)=some r∧r.length≤k∧Bld w.heap.size w.heap.size r w3∧Below w.heap.size w w3:=by
    obtain⟨r,r1,r2,r3,r4⟩:=hH.out;rw [hw3];exact⟨r,r1,r2,r3,⟨r4.os,r4.tape,r4.output,r4.size,r4.block⟩⟩
   obtain⟨r,r1,r2,r3,r4⟩:=hH3;have HR1:=hid r1;have HR3:=hid r3;have HR4:=hid r4;clear hw3 r1 r3 r4 hH HI HJ;by_cases hx0:x<0
   ·have HF:=hid (show BytesOut s.data.toList (.returned (.tuple #[.string ⟨#[]⟩,.bool false])) from .inl ⟨by rw [HU.out,Ji8 s k hks1];exact Jlx _ _ _ _ _ HR1.out (.inl (by rw [←HX.out];exact hx0)),rfl⟩)
    go_wp2
    go_ret2
    exact⟨HF.out,HR4.out⟩
   by_cases hy0:y<0
   ·have HF:=hid (show BytesOut s.data.toList (.returned (.tuple #[.string ⟨#[]⟩,.bool false])) from .inl ⟨by rw [HU.out,Ji8 s k hks1];exact Jlx _ _ _ _ _ HR1.out (.inr (by rw [←HY.out];exact hy0)),rfl⟩)
    go_wp2
    go_ret2
    exact⟨HF.out,HR4.out⟩
   have hx15:0≤x∧x<16:=by rcases HXc.out with h |h<;>omega
   have hy15:0≤y∧y<16:=by rcases HYc.out with h |h<;>omega
   have HN:=hid (Jqt _ _ _ _ HR1.out (show 0≤Lib.indexByte dgs s[k]∧0≤Lib.indexByte dgs s[k+1] by rw [←HX.out,←HY.out];omega));have hpb:=Jp2 x y hx15.1 hx15.2 hy15.1 hy15.2;go_wp2_with fail
   obtain⟨c,hc⟩:=words.nm (UInt8.ofNat (16*x.toNat+y.toNat));have hcn:(c.toNat:Int)=16*x+y:=by rw [hc,UInt8.toNat_ofNat'];omega
   have hwb:=Je2 w.heap.size w.heap.size r c w3 HR3.out (by omega) HR4.out.size;rw [hcn] at hwb;have HWB:=hid hwb;have HC:=hid hc;clear hwb hcn hc;refine HWB.out.mono ?_;rintro e w4 ⟨rfl,hbl4,hb4⟩;have H4:Hid (∃r:List UInt8,unP (s.data.toList.take (k+2))=some r∧r.length≤k+2∧Bld w.heap.size w.heap.size r w4∧Below w.heap.size w w4):=hid ⟨r++[c],by
     rw [Jmq s k hks1,HN.out,HC.out,←HX.out,←HY.out],by rw [List.length_append,List.length_singleton];omega,hbl4,HR4.out.trans hb4⟩
   have HP2:Hid ((k+2) % 2=0):=hid (by have:=hpar.out;omega);clear hbl4 hb4 HWB HR3 HR4 HN;go_wp2_with fail
   go_roundw
   case rel=>exact⟨k+2,by omega,by go_num,HP2,H4⟩
   case measure=>simp [intOf];omega
  ·have k1:¬(k:Int)<(s.size:Int):=by omega
   obtain rfl:k=s.size:=by omega
   obtain⟨r,r1,r2,r3,r4⟩:=hH.out;rw [List.take_of_length_le (by rw [size_list];exact Nat.le_refl _)] at r1;have HS:=hid (Jbn _ _ _ wr r3 r4.size);have HR4:=hid r4;have HR1:=hid r1;clear hH r1 r3 r4;go_wp2_with fail
   refine HS.out.mono ?_;rintro e w5 ⟨rfl,hb5⟩;have HF:=hid (HR4.out.trans hb5);obtain⟨b,hb⟩:∃b:ByteArray,b=⟨r.toArray⟩:=⟨_,rfl⟩
   rw [←hb];have HE:Hid (BytesOut s.data.toList (.returned (.tuple #[.string b,.bool true]))):=hid (.inr ⟨b,by rw [HU.out,HR1.out,hb,Ja9],rfl⟩);clear hb hb5 HS;go_wp2_with fail
   go_ret2
   exact⟨HE.out,HF.out⟩

theorem below_grow (w:World) (k:Nat) (os:Array Obj):Below w.heap.size w (Sort.grow (w.drewN k) os):=
 ⟨rfl,rfl,rfl,by show w.heap.size≤(w.heap++os).size;rw [Array.size_append];omega,fun i hi=>by
   show (w.heap++os)[i]?=_;rw [Array.getElem?_append_left hi]⟩
def I64 (n:Int):Prop:= -9223372036854775808≤n∧n≤9223372036854775807
theorem Jc1 (m:Int) (n:Int) (w:World) (hn:I64 n) (hE:Env m w):
  Calls prog 33 #[.int .i64 n] w fun e w'=>(∃r:ByteArray,e= .returned (.string r)∧r.data.toList=Lib.itoa n)∧Below w.heap.size w w':=by
 refine (Tryz.strconv_Itoa n hn.1 hn.2 w hE.tab).mono ?_;rintro e w' ⟨rfl,k,os,rfl⟩;exact⟨⟨_,rfl,Ja9 _⟩,below_grow w k os⟩
def NumOut (l:List UInt8) (e:Ending):Prop:=(numP l=none∧e= .returned (.tuple #[.int .i64 0,.bool false]))∨(∃n:Int,numP l=some n∧e= .returned (.tuple #[.int .i64 n,.bool true]))
theorem Jak (m:Int) (s:ByteArray) (w:World) (hs:s.size≤1000000000) (hE:Env m w):
  Calls prog 108 #[.string s] w fun e w'=>NumOut s.data.toList e∧Below w.heap.size w w':=by
 have HE:=hid hE;cases ha:Lib.atoiAll s.data.toList with
 |ok v=>
  have hv:I64 v:=Lib.atoiAll_bounds ha;have HA:=hid (Tryz.strconv_Atoi_ok s (by omega) v ha w);have HN:Hid (numP s.data.toList=if Lib.itoa v=s.data.toList then some v else none):=hid (by unfold numP;rw [ha]);have HV:=hid hv;clear ha hE hv;go_enter func108,ntmps108
  go_wp2_with fail
  refine HA.out.mono ?_;rintro e w1 ⟨rfl,hw1⟩;have hb1:Below w.heap.size w w1:=by
   rcases hw1 with rfl |⟨t,rfl⟩
   ·exact Below.refl _ _
   ·exact Lib.bytesWorld_below _ _ _
  have HI:=hid (Jc1 m v w1 HV.out (HE.out.later hb1));have HB1:=hid hb1;clear hb1 hw1 HA;go_wp2_with fail
  refine HI.out.mono ?_;rintro e w2 ⟨⟨r,rfl,hr⟩,hb2⟩;have HF:=hid (HB1.out.trans (hb2.mono HB1.out.size));clear hb2 HI;by_cases hc:r=s
  ·have g1:(r.toList==s.toList)=true:=by rw [hc];exact beq_self_eq_true _
   have HO:Hid (NumOut s.data.toList (.returned (.tuple #[.int .i64 v,.bool true]))):=hid (.inr ⟨v,by rw [HN.out,if_pos (by rw [←hr,hc])],rfl⟩);clear hc hr;go_wp2_with fail
   go_ret2
   exact⟨HO.out,HF.out⟩
  ·have g1:(r.toList==s.toList)=false:=by rw [beq_eq_false_iff_ne];exact fun h=>hc (Jbd (by rw [←to_list,←to_list];exact h))
   have HO:Hid (NumOut s.data.toList (.returned (.tuple #[.int .i64 0,.bool false]))):=hid (.inl ⟨by rw [HN.out,if_neg (fun h=>hc (Jbd (hr.trans h)))],rfl⟩);clear hc hr;go_wp2_with fail
   go_ret2
   exact⟨HO.out,HF.out⟩
 |range=>
  obtain⟨tp,p,hv⟩:=hE.rng;have HA:=hid (Tryz.strconv_Atoi_range_var s (by omega) ha tp p w hv);have HO:Hid (NumOut s.data.toList (.returned (.tuple #[.int .i64 0,.bool false]))):=hid (.inl ⟨by unfold numP;rw [ha],rfl⟩);clear ha hE hv;go_enter func108,ntmps108
  go_wp2_with fail
  refine HA.out.mono ?_;rintro e w1 ⟨N,rfl,_,_,hb⟩;have HF:=hid hb;clear hb HA;go_wp2_with fail
  go_ret2
  exact⟨HO.out,HF.out⟩
 |_=>
  obtain⟨tp,p,hv⟩:=hE.syn;have HA:=hid (Tryz.strconv_Atoi_syntax_var s (by omega) ⟨fun n h=>(by rw [ha] at h;cases h),fun h=>(by rw [ha] at h;cases h)⟩ tp p w hv);have HO:Hid (NumOut s.data.toList (.returned (.tuple #[.int .i64 0,.bool false]))):=hid (.inl ⟨by unfold numP;rw [ha],rfl⟩);clear ha hE hv;go_enter func108,ntmps108
  go_wp2_with fail
  refine HA.out.mono ?_;rintro e w1 ⟨N,rfl,_,_,hb⟩;have HF:=hid hb;clear hb HA;go_wp2_with fail
  go_ret2
  exact⟨HO.out,HF.out⟩

theorem Jjv {n:Int} (h0:n<0) (h1: -10<n):Lib.itoa n=[45,UInt8.ofNat (48+n.natAbs)]:=by
 unfold Lib.itoa;rw [if_pos h0,Jfr (by omega)]
theorem Jii {n p:Int} {d:Nat} (h0:n<0) (h1:¬ -10<n) (hp:p=Int.tdiv n 10) (hd:d=n.natAbs % 10):Lib.itoa n=Lib.itoa p++[UInt8.ofNat (48+d)]:=by
 have hq:p= -((n.natAbs / 10:Nat):Int):=by
  rw [hp];have:n= -(n.natAbs:Int):=by omega
  rw [this,Int.neg_tdiv,Int.tdiv_eq_ediv_of_nonneg (by omega)];omega
 have hpn:p<0:=by omega
 have ha:p.natAbs=n.natAbs / 10:=by omega
 unfold Lib.itoa;rw [if_pos h0,if_pos hpn,Jm3 (by omega),ha,hd];rfl
theorem Jam {n:Int} (h0:0≤n) (h1:n<10):Lib.itoa n=[UInt8.ofNat (48+n.toNat)]:=by
 unfold Lib.itoa;rw [if_neg (by omega),Jfr (by omega)]
theorem Jgk {n p:Int} {d:Nat} (_:0≤n) (h1:¬n<10) (hp:p=n / 10) (hd:d=n.toNat % 10):Lib.itoa n=Lib.itoa p++[UInt8.ofNat (48+d)]:=by
 unfold Lib.itoa;rw [if_neg (by omega),if_neg (by omega),Jm3 (by omega),hp,hd];congr 3;omega
theorem one_byte (w:World) (c:UInt8) (z:Int) (hz:z=(c.toNat:Int)):(convert 94 9 (.slice (some ⟨w.heap.size,0,none⟩) 1 1)).run prog (w.alloc (.cells #[.int .u8 z] 5))= .ok (.string ⟨#[c]⟩) (w.alloc (.cells #[.int .u8 z] 5)):=by
 subst hz;have:=run_convert_bytes_back (P:=prog) (w.alloc (.cells #[.int .u8 (c.toNat:Int)] 5)) 94 9 5 ⟨w.heap.size,0,none⟩ 1 [c] underlying94 underlying5 underlying9 (fun j hj=>by
   obtain rfl:j=0:=by simpa using hj
   simp [Addr.add])
 exact this
theorem Jla (n:Int) (hn:I64 n) (h0:n<0) (h1: -10<n) (w:World):
  Calls prog 10 #[.int .i64 n] w fun e w'=>(∃r:ByteArray,e= .returned (.string r)∧r.data.toList=Lib.itoa n)∧Below w.heap.size w w':=by
 obtain⟨hn0,hn1⟩:=hn;obtain⟨q,hq⟩:∃q:Int,q=Int.tmod n 10:=⟨_,rfl⟩
 obtain⟨p,hp⟩:∃p:Int,p=Int.tdiv n 10:=⟨_,rfl⟩
 obtain⟨d,hd⟩:∃d:Nat,d=n.natAbs % 10:=⟨_,rfl⟩
 have hqd:q= -(d:Int):=by
  rw [hq,hd];have:n= -(n.natAbs:Int):=by omega
  rw [this,Int.neg_tmod,Int.tmod_eq_emod_of_nonneg (by omega)];omega
 have hpa:p= -((n.natAbs / 10:Nat):Int):=by
  rw [hp];have:n= -(n.natAbs:Int):=by omega
  rw [this,Int.neg_tdiv,Int.tdiv_eq_ediv_of_nonneg (by omega)];omega
 have q1:Int.tmod n 10=q:=hq.symm;have p1:Int.tdiv n 10=p:=hp.symm;have q2: -9≤q:=by omega
 have q3:q≤0:=by omega
 have hob:=one_byte w (UInt8.ofNat (48+d)) (48 - q) (by rw [UInt8.toNat_ofNat'];omega);obtain⟨W1,hW1⟩:=words.nm (w.alloc (.cells #[.int .u8 (48 - q)] 5));have hb1:=words.b1 hW1;obtain⟨lb,hlb⟩:∃lb:ByteArray,lb=⟨#[UInt8.ofNat (48+d)]⟩:=⟨_,rfl⟩
 rw [←hlb] at hob;have hlz:lb.size=1:=by rw [hlb];rfl
 have HL:=hid hlb;have HB1:=hid hb1;have HW1:=hid hW1.symm;have HI:=hid (Jjv h0 h1);have HD:=hid (show d=n.natAbs by omega);clear hq hp hd hqd hpa p1 hlb hb1 hW1;go_enter func10,ntmps10
 go_wp2_with fail
 go_ret
 exact⟨⟨_,rfl,by rw [Jd5,HL.out,HI.out,HD.out];rfl⟩,by rw [HW1.out];exact HB1.out⟩
theorem Jw6 (n:Int) (hn:I64 n) (h0:0≤n) (h1:n<10) (w:World):
  Calls prog 10 #[.int .i64 n] w fun e w'=>(∃r:ByteArray,e= .returned (.string r)∧r.data.toList=Lib.itoa n)∧Below w.heap.size w w':=by
 obtain⟨hn0,hn1⟩:=hn;obtain⟨q,hq⟩:∃q:Int,q=n % 10:=⟨_,rfl⟩
 obtain⟨p,hp⟩:∃p:Int,p=n / 10:=⟨_,rfl⟩
 obtain⟨d,hd⟩:∃d:Nat,d=n.toNat % 10:=⟨_,rfl⟩
 have hqd:q=(d:Int):=by omega
 have q1:n % 10=q:=hq.symm;have p1:n / 10=p:=hp.symm;have q0:Int.tmod n 10=q:=by rw [hq];exact Int.tmod_eq_emod_of_nonneg h0
 have p0:Int.tdiv n 10=p:=by rw [hp];exact Int.tdiv_eq_ediv_of_nonneg h0
 have q2:0≤q:=by omega
 have q3:q≤9:=by omega
 have hob:=one_byte w (UInt8.ofNat (48+d)) (48+q) (by rw [UInt8.toNat_ofNat'];omega);obtain⟨W1,hW1⟩:=words.nm (w.alloc (.cells #[.int .u8 (48+q)] 5));have hb1:=words.b1 hW1;obtain⟨lb,hlb⟩:∃lb:ByteArray,lb=⟨#[UInt8.ofNat (48+d)]⟩:=⟨_,rfl⟩
 rw [←hlb] at hob;have hlz:lb.size=1:=by rw [hlb];rfl
 have HL:=hid hlb;have HB1:=hid hb1;have HW1:=hid hW1.symm;have HI:=hid (Jam h0 h1);have HD:=hid (show d=n.toNat by omega);clear hq hp hd hqd p0 p1 hlb hb1 hW1;go_enter func10,ntmps10
 go_wp2_with fail
 go_ret
 exact⟨⟨_,rfl,by rw [HL.out,HI.out,HD.out]⟩,by rw [HW1.out];exact HB1.out⟩
theorem Jj9 (n:Int) (hn:I64 n) (h0:n<0) (h1:¬ -10<n) (w:World)
  (hc:∀w':World,Calls prog 10 #[.int .i64 (Int.tdiv n 10)] w' fun e w''=>(∃r:ByteArray,e= .returned (.string r)∧r.data.toList=Lib.itoa (Int.tdiv n 10))∧Below w'.heap.size w' w''):
  Calls prog 10 #[.int .i64 n] w fun e w'=>(∃r:ByteArray,e= .returned (.string r)∧r.data.toList=Lib.itoa n)∧Below w.heap.size w w':=by
 obtain⟨hn0,hn1⟩:=hn;obtain⟨q,hq⟩:∃q:Int,q=Int.tmod n 10:=⟨_,rfl⟩
 obtain⟨p,hp⟩:∃p:Int,p=Int.tdiv n 10:=⟨_,rfl⟩
 obtain⟨d,hd⟩:∃d:Nat,d=n.natAbs % 10:=⟨_,rfl⟩
 have hqd:q= -(d:Int):=by
  rw [hq,hd];have:n= -(n.natAbs:Int):=by omega
  rw [this,Int.neg_tmod,Int.tmod_eq_emod_of_nonneg (by omega)];omega
 have hpa:p= -((n.natAbs / 10:Nat):Int):=by
  rw [hp];have:n= -(n.natAbs:Int):=by omega
  rw [this,Int.neg_tdiv,Int.tdiv_eq_ediv_of_nonneg (by omega)];omega
 have q1:Int.tmod n 10=q:=hq.symm;have p1:Int.tdiv n 10=p:=hp.symm;have q2: -9≤q:=by omega
 have q3:q≤0:=by omega
 have pb0: -922337203685477580≤p:=by omega
 have pb1:p≤0:=by omega
 have hob:=one_byte w (UInt8.ofNat (48+d)) (48 - q) (by rw [UInt8.toNat_ofNat'];omega);obtain⟨W1,hW1⟩:=words.nm (w.alloc (.cells #[.int .u8 (48 - q)] 5));have hb1:=words.b1 hW1;obtain⟨lb,hlb⟩:∃lb:ByteArray,lb=⟨#[UInt8.ofNat (48+d)]⟩:=⟨_,rfl⟩
 rw [←hlb] at hob;have hlz:lb.size=1:=by rw [hlb];rfl
 have HL:=hid hlb;have HB1:=hid hb1;have HW1:=hid hW1.symm;have HI:=hid (Jii h0 h1 hp hd);have HC:=hid (hc W1);rw [p1] at HC;have HP:Hid ((Lib.itoa p).length≤21):=hid (Lib.itoa_length_le p (by omega) (by omega));clear hc hq hp hd hqd hpa hlb hb1 hW1;go_enter func10,ntmps10
 go_wp2_with fail
 rw [HW1.out];refine HC.out.mono ?_;rintro e w2 ⟨⟨r,rfl,hr⟩,hb2⟩;have hrz:r.size≤21:=by rw [←size_list,hr];exact HP.out
 have HR:=hid hr;have HF:=hid (HB1.out.trans (hb2.mono HB1.out.size));clear hr hb2 HC hob;go_wp2_with fail
 go_ret
 exact⟨⟨_,rfl,by rw [Jd5,HR.out,HL.out,HI.out]⟩,HF.out⟩
theorem Jtm (n:Int) (hn:I64 n) (h0:0≤n) (h1:¬n<10) (w:World)
  (hc:∀w':World,Calls prog 10 #[.int .i64 (n / 10)] w' fun e w''=>(∃r:ByteArray,e= .returned (.string r)∧r.data.toList=Lib.itoa (n / 10))∧Below w'.heap.size w' w''):
  Calls prog 10 #[.int .i64 n] w fun e w'=>(∃r:ByteArray,e= .returned (.string r)∧r.data.toList=Lib.itoa n)∧Below w.heap.size w w':=by
 obtain⟨hn0,hn1⟩:=hn;obtain⟨q,hq⟩:∃q:Int,q=n % 10:=⟨_,rfl⟩
 obtain⟨p,hp⟩:∃p:Int,p=n / 10:=⟨_,rfl⟩
 obtain⟨d,hd⟩:∃d:Nat,d=n.toNat % 10:=⟨_,rfl⟩
 have hqd:q=(d:Int):=by omega
 have q1:n % 10=q:=hq.symm;have p1:n / 10=p:=hp.symm;have q0:Int.tmod n 10=q:=by rw [hq];exact Int.tmod_eq_emod_of_nonneg h0
 have p0:Int.tdiv n 10=p:=by rw [hp];exact Int.tdiv_eq_ediv_of_nonneg h0
 have q2:0≤q:=by omega
 have q3:q≤9:=by omega
 have hob:=one_byte w (UInt8.ofNat (48+d)) (48+q) (by rw [UInt8.toNat_ofNat'];omega);obtain⟨W1,hW1⟩:=words.nm (w.alloc (.cells #[.int .u8 (48+q)] 5));have hb1:=words.b1 hW1;obtain⟨lb,hlb⟩:∃lb:ByteArray,lb=⟨#[UInt8.ofNat (48+d)]⟩:=⟨_,rfl⟩
 rw [←hlb] at hob;have hlz:lb.size=1:=by rw [hlb];rfl
 have HL:=hid hlb;have HB1:=hid hb1;have HW1:=hid hW1.symm;have HI:=hid (Jgk h0 h1 hp hd);have HC:=hid (hc W1);rw [p1] at HC;have HP:Hid ((Lib.itoa p).length≤21):=hid (Lib.itoa_length_le p (by omega) (by omega));clear hc hq hp hd hqd hlb hb1 hW1;go_enter func10,ntmps10
 go_wp2_with fail
 rw [HW1.out];refine HC.out.mono ?_;rintro e w2 ⟨⟨r,rfl,hr⟩,hb2⟩;have hrz:r.size≤21:=by rw [←size_list,hr];exact HP.out
 have HR:=hid hr;have HF:=hid (HB1.out.trans (hb2.mono HB1.out.size));clear hr hb2 HC hob;go_wp2_with fail
 go_ret
 exact⟨⟨_,rfl,by rw [Jd5,HR.out,HL.out,HI.out]⟩,HF.out⟩
theorem Jlo:∀(k:Nat) (n:Int),n.natAbs<k→I64 n→∀w:World,Calls prog 10 #[.int .i64 n] w fun e w'=>(∃r:ByteArray,e= .returned (.string r)∧r.data.toList=Lib.itoa n)∧Below w.heap.size w w'
 |0,n,h,_,_=>absurd h (Nat.not_lt_zero _)
 |k+1,n,hk,hn,w=>by
  by_cases h0:n<0
  ·by_cases h1: -10<n
   ·exact Jla n hn h0 h1 w
   ·have hpa:Int.tdiv n 10= -((n.natAbs / 10:Nat):Int):=by
     have:n= -(n.natAbs:Int):=by omega
     rw [this,Int.neg_tdiv,Int.tdiv_eq_ediv_of_nonneg (by omega)];omega
    refine Jj9 n hn h0 h1 w (Jlo k _ (by omega) ?_);unfold I64 at hn ⊢;omega
  ·by_cases h1:n<10
   ·exact Jw6 n hn (by omega) h1 w
   ·refine Jtm n hn (by omega) h1 w (Jlo k _ (by omega) ?_)
    unfold I64 at hn ⊢;omega
theorem Jo3 (n:Int) (hn:I64 n) (w:World):Calls prog 10 #[.int .i64 n] w fun e w'=>(∃r:ByteArray,e= .returned (.string r)∧r.data.toList=Lib.itoa n)∧Below w.heap.size w w':=Jlo (n.natAbs+1) n (Nat.lt_succ_self _) hn w

theorem keep_grown {w w1 w2:World} {B:Nat} {v:Value} {e size n:Nat} {xs:List Value} (hb:Below w.heap.size w w1) (hown:w1.ownsRow B e size v n xs) (hg:w1.grownBy w2 v.ownBlock) (hB:w.heap.size≤B):Below w.heap.size w w2:=
 hb.grown hg hb.size (fun k hk=>Nat.le_trans hB (hown.lt k hk).1)
theorem Jai {w w':World} {B e size n:Nat} {v:Value} {xs:List Value} (h:w.ownsRow B e size v n xs) (hb:Below w.heap.size w w'):w'.ownsRow B e size v n xs:=by
 refine⟨h.1,?_⟩;rcases h.2 with h0 |⟨g,cap,cur,hv,hbg,hh,hr⟩
 ·exact .inl h0
 ·exact .inr ⟨g,cap,cur,hv,hbg,(hb.block g (lt_of_some hh)).trans hh,hr⟩
theorem Jrf {B n:Nat} {v:Value} {l:List UInt8} {w:World} (ho:w.ownsRow B 5 1 v n (Lib.byteCells l)):
  (convert 94 9 v).run prog w= .ok (.string ⟨l.toArray⟩) w:=by
 have hn:n=l.length:=by have:=ho.1;simpa [Lib.byteCells] using this.symm
 subst hn;rcases ho.2 with⟨rfl,h0⟩ |⟨g,cap,cur,rfl,_⟩
 ·have:l=[]:=List.eq_nil_of_length_eq_zero h0
  subst this;exact Lib.run_convert_nil_bytes w 94 9 5 0 underlying94 underlying5 underlying9
 ·refine run_convert_bytes_back w 94 9 5 ⟨g,0,none⟩ cap l underlying94 underlying5 underlying9 fun j hj=>?_
  exact ho.cells (g:=g) rfl j _ (by simp [Lib.byteCells,hj])

def opV (k:Int) (p:ByteArray) (o n i:Int) (g:ByteArray):Value:= .agg #[.int .i64 k,.string p,.int .i64 o,.int .i64 n,.int .i64 i,.string g]
def opM (k:Int) (p:ByteArray) (o n i:Int) (g:ByteArray):Op:=⟨k,p.data.toList,o,n,i,g.data.toList⟩
def StrOut (l:List UInt8) (w:World) (e:Ending) (w':World):Prop:=(∃r:ByteArray,e= .returned (.string r)∧r.data.toList=l)∧Below w.heap.size w w'
theorem Jt8 (m:Int) (k:Int) (w:World) (hE:Env m w):Calls prog 59 #[.int .i64 k] w (StrOut (wordL k) w):=by
 by_cases h0:k<0
 ·have HW:=hid (show wordL k=[] by unfold wordL;rw [if_pos (.inl h0)])
  go_enter func59,ntmps59
  go_wp2
  go_ret
  exact⟨⟨_,rfl,by rw [HW.out]⟩,Below.refl _ _⟩
 by_cases h1:10≤k
 ·have HW:=hid (show wordL k=[] by unfold wordL;rw [if_pos (.inr h1)])
  go_enter func59,ntmps59
  go_wp2
  go_ret
  exact⟨⟨_,rfl,by rw [HW.out]⟩,Below.refl _ _⟩
 obtain⟨j,rfl⟩:∃j:Nat,k=(j:Int):=⟨k.toNat,by omega⟩
 have hj:j<wds.length:=by show j<10;omega
 obtain⟨x,hx⟩:∃x,wds[j]?=some x:=⟨_,List.getElem?_eq_getElem hj⟩
 have hc:=hE.wds j x hx;have HW:=hid (show wordL (j:Int)=x by
   unfold wordL;rw [if_neg (by omega),List.getD_eq_getElem?_getD,Int.toNat_natCast,hx];rfl)
 obtain⟨xb,hxb⟩:∃xb:ByteArray,xb=⟨x.toArray⟩:=⟨_,rfl⟩
 rw [←hxb] at hc;have HX:=hid hxb;have j1:(j:Int)<10:=by omega
 have j0:(0:Int)≤(j:Int):=by omega
 have j2:¬10≤j:=by omega
 have j3:j<10:=by omega
 clear hx hxb hE hj;go_enter func59,ntmps59
 go_wp2
 go_ret
 exact⟨⟨xb,rfl,by rw [HX.out,HW.out,Ja9]⟩,Below.refl _ _⟩
theorem wix (k:Int) (v:Value) (h:∀w:World,Sem.run prog (Instr.index 172 (.agg #[.string ⟨#[]⟩,.string ⟨#[108,111,111,107,117,112]⟩,.string ⟨#[115,116,97,116]⟩,.string ⟨#[114,101,97,100,108,105,110,107]⟩,.string ⟨#[114,101,97,100]⟩,.string ⟨#[111,112,101,110]⟩,.string ⟨#[112,97,103,101]⟩,.string ⟨#[99,108,111,115,101]⟩,.string ⟨#[97,100,100]⟩,.string ⟨#[114,101,109,111,118,101]⟩]) (.int .i64 k)) w= .ok v w) (w:World):Sem.run prog (Instr.index 172 (.agg #[.string ⟨#[]⟩,.string ⟨#[108,111,111,107,117,112]⟩,.string ⟨#[115,116,97,116]⟩,.string ⟨#[114,101,97,100,108,105,110,107]⟩,.string ⟨#[114,101,97,100]⟩,.string ⟨#[111,112,101,110]⟩,.string ⟨#[112,97,103,101]⟩,.string ⟨#[99,108,111,115,101]⟩,.string ⟨#[97,100,100]⟩,.string ⟨#[114,101,109,111,118,101]⟩]) (.int .i64 k)) w= .ok v w:=h w
theorem Jlq (k:Nat) (x:List UInt8) (hx:wds[k]?=some x) (w:World):Sem.run prog (Instr.index 172 (.agg #[.string ⟨#[]⟩,.string ⟨#[108,111,111,107,117,112]⟩,.string ⟨#[115,116,97,116]⟩,.string ⟨#[114,101,97,100,108,105,110,107]⟩,.string ⟨#[114,101,97,100]⟩,.string ⟨#[111,112,101,110]⟩,.string ⟨#[112,97,103,101]⟩,.string ⟨#[99,108,111,115,101]⟩,.string ⟨#[97,100,100]⟩,.string ⟨#[114,101,109,111,118,101]⟩]) (.int .i64 (k:Int))) w= .ok (.string ⟨x.toArray⟩) w:=by
 have hk:k<10:=(List.getElem?_eq_some_iff.1 hx).1;have:k=0∨k=1∨k=2∨k=3∨k=4∨k=5∨k=6∨k=7∨k=8∨k=9:=by omega
 rcases this with rfl |rfl |rfl |rfl |rfl |rfl |rfl |rfl |rfl |rfl<;>(cases hx;exact wix _ _ (fun _=>by kernel_rfl) w)
theorem Jrz {l:List UInt8} (h:∀i x,i<10→wds[i]?=some x→x≠l):kindL l=0:=by
 unfold kindL;have:wds.findIdx? (·==l)=none:=by
  rw [List.findIdx?_eq_none_iff];intro x hx;obtain⟨i,hi⟩:=List.getElem?_of_mem hx;rw [beq_eq_false_iff_ne];exact h i x (List.getElem?_eq_some_iff.1 hi).1 hi
 rw [this];rfl
theorem Jq0 {l:List UInt8} {k:Nat} (hk:wds[k]?=some l) (h:∀i x,i<k→wds[i]?=some x→x≠l):kindL l=(k:Int):=by
 unfold kindL;have:wds.findIdx? (·==l)=some k:=by
  obtain⟨hlt,he⟩:=List.getElem?_eq_some_iff.1 hk;rw [List.findIdx?_eq_some_iff_getElem];refine⟨hlt,by rw [he];exact beq_self_eq_true l,fun j hj=>?_⟩;have hj2:j<wds.length:=by omega
  have:=h j wds[j] hj (List.getElem?_eq_getElem hj2);simpa using this
 rw [this];rfl
theorem Jtu (m:Int) (s:ByteArray) (w:World) (hE:Env m w):Calls prog 111 #[.string s] w fun e w'=>e= .returned (.int .i64 (kindL s.data.toList))∧w=w':=by
 have h0:=hE.wds 0 _ rfl;have h1:=hE.wds 1 _ rfl;have h2:=hE.wds 2 _ rfl;have h3:=hE.wds 3 _ rfl;have h4:=hE.wds 4 _ rfl;have h5:=hE.wds 5 _ rfl;have h6:=hE.wds 6 _ rfl;have h7:=hE.wds 7 _ rfl;have h8:=hE.wds 8 _ rfl;have h9:=hE.wds 9 _ rfl;clear hE;go_enter func111,ntmps111
 go_wp2_with fail
 go_loop [6] (fun v=>∃k:Nat,k≤10∧v= .int .i64 (k:Int)∧Hid (∀i x,i<k→wds[i]?=some x→x≠s.data.toList)) (fun v=>10 - (intOf v).toNat)
 case atStart=>exact⟨0,by omega,rfl,hid fun i x h=>absurd h (Nat.not_lt_zero _)⟩
 case round=>
  obtain⟨k,hk,rfl,hH⟩:=hrel;have k0:(0:Int)≤(k:Int):=by omega
  by_cases hks:k<10
  ·have k1:(k:Int)<10:=by omega
   obtain⟨x,hx⟩:∃x,wds[k]?=some x:=⟨_,List.getElem?_eq_getElem hks⟩
   have hix:=fun w':World=>Jlq k x hx w';obtain⟨xb,hxb⟩:∃xb:ByteArray,xb=⟨x.toArray⟩:=⟨_,rfl⟩
   rw [←hxb] at hix;have hxd:xb.data.toList=x:=by rw [hxb,Ja9]
   by_cases hc:x=s.data.toList
   ·have g:(xb.toList==s.toList)=true:=by rw [to_list,to_list,hxd,hc];exact beq_self_eq_true _
    have HF:=hid (Jq0 (by rw [←hc];exact hx) hH.out);clear hx hxb hxd hc;go_wp2_with fail
    go_ret
    exact⟨by rw [HF.out];rfl,rfl⟩
   ·have g:(xb.toList==s.toList)=false:=by rw [to_list,to_list,hxd,beq_eq_false_iff_ne];exact hc
    have HN:Hid (∀i x,i<k+1→wds[i]?=some x→x≠s.data.toList):=hid fun i y hi hy=>by
     rcases Nat.lt_succ_iff_lt_or_eq.1 hi with h |rfl
     ·exact hH.out i y h hy
     ·rw [hx] at hy
      injection hy with hy;rw [←hy];exact hc
    clear hx hxb hxd hc;go_wp2_with fail
    go_round
    case rel=>exact⟨k+1,by omega,by go_num,HN⟩
    case measure=>simp [intOf];omega
  ·obtain rfl:k=10:=by omega
   have HF:=hid (Jrz hH.out);go_wp2_with fail
   go_ret
   exact⟨by rw [HF.out];rfl,rfl⟩

def set6 (w:World) (b:Nat) (u0 u1 u2 u3 u4 u5:Value):World:=(((((w.setCell ⟨b,0,none⟩ u0).setCell ⟨b,1,none⟩ u1).setCell ⟨b,2,none⟩ u2).setCell ⟨b,3,none⟩ u3).setCell ⟨b,4,none⟩ u4).setCell ⟨b,5,none⟩ u5
theorem over6 {w:World} {g:Nat} {T:TypeId} {c0 c1 c2 c3 c4 c5 u0 u1 u2 u3 u4 u5:Value} (h:w.heap[g]?=some (.cells #[c0,c1,c2,c3,c4,c5] T (0,0))):(set6 w g u0 u1 u2 u3 u4 u5).heap[g]?=some (.cells #[u0,u1,u2,u3,u4,u5] T (0,0)):=by
 simp [set6,World.setCell,Array.getElem?_modify,h]
theorem below6 {B g:Nat} {a b:World} (h:Below B a b) (hg:B≤g) (u0 u1 u2 u3 u4 u5:Value):Below B a (set6 b g u0 u1 u2 u3 u4 u5):=
 (((((h.setCell (p:=⟨g,0,none⟩) hg u0).setCell (p:=⟨g,1,none⟩) hg u1).setCell (p:=⟨g,2,none⟩) hg u2).setCell (p:=⟨g,3,none⟩) hg u3).setCell (p:=⟨g,4,none⟩) hg u4).setCell (p:=⟨g,5,none⟩) hg u5
def opB (k:Int) (p:ByteArray) (o n i:Int) (g:ByteArray):Obj:= .cells #[.int .i64 k,.string p,.int .i64 o,.int .i64 n,.int .i64 i,.string g] 55 (0,0)
def ToldOut (k:Int) (p:ByteArray) (o n i:Int) (g:ByteArray) (w:World) (e:Ending) (w':World):Prop:=
 (∃p' o' n' i' g',e= .returned (opV k p' o' n' i' g')∧opM k p' o' n' i' g'=toldM (opM k p o n i g))∧Below w.heap.size w w'
theorem Jun {w W1:World} {b:Nat} {k:Int} {p:ByteArray} {o n i:Int} {g:ByteArray} (hb:Below w.heap.size w W1) (hbb:w.heap.size≤b) (hr:W1.heap[b]?=some (opB 0 ⟨#[]⟩ 0 0 0 ⟨#[]⟩)) (p':ByteArray) (o' n' i':Int) (g':ByteArray) (hm:opM k p' o' n' i' g'=toldM (opM k p o n i g)):
  ∀W,W=set6 W1 b (.int .i64 k) (.string p') (.int .i64 o') (.int .i64 n') (.int .i64 i') (.string g')→W.cell? ⟨b,0,none⟩=some (.int .i64 k)∧W.cell? ⟨b,1,none⟩=some (.string p')∧W.cell? ⟨b,2,none⟩=some (.int .i64 o')∧W.cell? ⟨b,3,none⟩=some (.int .i64 n')∧W.cell? ⟨b,4,none⟩=some (.int .i64 i')∧W.cell? ⟨b,5,none⟩=some (.string g')∧
   ToldOut k p o n i g w (.returned (.agg #[.int .i64 k,.string p',.int .i64 o',.int .i64 n',.int .i64 i',.string g'])) W:=fun W hW=>by
 have ho:=over6 (u0:= .int .i64 k) (u1:= .string p') (u2:= .int .i64 o') (u3:= .int .i64 n') (u4:= .int .i64 i') (u5:= .string g') hr;have hbd:=below6 hb hbb (.int .i64 k) (.string p') (.int .i64 o') (.int .i64 n') (.int .i64 i') (.string g');rw [←hW] at ho hbd;exact⟨Jaa ho 0,Jaa ho 1,Jaa ho 2,Jaa ho 3,Jaa ho 4,Jaa ho 5,⟨p',o',n',i',g',rfl,hm⟩,hbd⟩
theorem Ju1 (k:Int) (p:ByteArray) (o n i:Int) (g:ByteArray) (w:World):Calls prog 143 #[opV k p o n i g] w (ToldOut k p o n i g w):=by
 obtain⟨W0,hW0⟩:=words.nm (w.alloc (.cells #[.int .i64 k,.string p,.int .i64 o,.int .i64 n,.int .i64 i,.string g] 55));obtain⟨W1,hW1⟩:=words.nm (W0.alloc (.cells #[.int .i64 0,.string ⟨#[]⟩,.int .i64 0,.int .i64 0,.int .i64 0,.string ⟨#[]⟩] 55));obtain⟨b,hb⟩:=words.nm (w.heap.size+1);have hz0:W0.heap.size=b:=by rw [hW0,hb];exact World.size_alloc w _
 have hb0:=words.b1 hW0;have hb01:Below W0.heap.size W0 W1:=words.b1 hW1;have hx0:W0.heap[w.heap.size]?=some (opB k p o n i g):=by rw [hW0];exact heap_alloc_new w _
 have hx:W1.heap[w.heap.size]?=some (opB k p o n i g):=(hb01.block _ (lt_of_some hx0)).trans hx0;have hr:W1.heap[b]?=some (opB 0 ⟨#[]⟩ 0 0 0 ⟨#[]⟩):=by rw [hW1,←hz0];exact heap_alloc_new W0 _
 have hb1:Below w.heap.size w W1:=hb0.trans (hb01.mono hb0.size);have HPut:=hid (fun p' o' n' i' g' (hm:opM k p' o' n' i' g'=toldM (opM k p o n i g))=>Jun hb1 (by omega:w.heap.size≤b) hr p' o' n' i' g' hm);unfold opB at hx hr;have c0:W1.cell? ⟨w.heap.size,0,none⟩=some (.int .i64 k):=Jaa hx 0;have c1:W1.cell? ⟨w.heap.size,1,none⟩=some (.string p):=Jaa hx 1;have c2:W1.cell? ⟨w.heap.size,2,none⟩=some (.int .i64 o):=Jaa hx 2;have c3:W1.cell? ⟨w.heap.size,3,none⟩=some (.int .i64 n):=Jaa hx 3;have c4:W1.cell? ⟨w.heap.size,4,none⟩=some (.int .i64 i):=Jaa hx 4;have c5:W1.cell? ⟨w.heap.size,5,none⟩=some (.string g):=Jaa hx 5;have d0:W1.cell? ⟨b,0,none⟩=some (.int .i64 0):=Jaa hr 0;have d1:W1.cell? ⟨b,1,none⟩=some (.string ⟨#[]⟩):=Jaa hr 1;have d2:W1.cell? ⟨b,2,none⟩=some (.int .i64 0):=Jaa hr 2;have d3:W1.cell? ⟨b,3,none⟩=some (.int .i64 0):=Jaa hr 3;have d4:W1.cell? ⟨b,4,none⟩=some (.int .i64 0):=Jaa hr 4;have d5:W1.cell? ⟨b,5,none⟩=some (.string ⟨#[]⟩):=Jaa hr 5;have z0:=Jab hr 0;have z1:=Jab hr 1;have z2:=Jab hr 2;have z3:=Jab hr 3;have z4:=Jab hr 4;have z5:=Jab hr 5;have HW:Hid ((w.alloc (.cells #[.int .i64 k,.string p,.int .i64 o,.int .i64 n,.int .i64 i,.string g] 55)).alloc (.cells #[.int .i64 0,.string ⟨#[]⟩,.int .i64 0,.int .i64 0,.int .i64 0,.string ⟨#[]⟩] 55)=W1):=hid (by rw [hW1,hW0]);have HB:=hid hb.symm;clear hW0 hW1 hb hz0 hb0 hb01 hx0 hx hr hb1;unfold opV;go_enter func143,ntmps143
 go_upto_region 1 with fail
 rw [HW.out];simp only [HB.out];clear HW HB;by_cases h4:k=4
 ·subst h4
  have HP:=hid (HPut.out p o n 0 ⟨#[]⟩ (rfl));clear HPut;go_wp2_with fail
  obtain⟨p0,p1,p2,p3,p4,p5,HE⟩:=HP.out _ rfl;unfold set6 at p0 p1 p2 p3 p4 p5 HE;exact bodyPost_ret (v:= .agg #[.int .i64 4,.string p,.int .i64 o,.int .i64 n,.int .i64 0,.string ⟨#[]⟩]) (by simp [results,results143,go_sem,p0,p1,p2,p3,p4,p5]) rfl HE
 by_cases h6:k=6
 ·subst h6
  have HP:=hid (HPut.out ⟨#[]⟩ 0 n i ⟨#[]⟩ (rfl));clear HPut;go_wp2_with fail
  obtain⟨p0,p1,p2,p3,p4,p5,HE⟩:=HP.out _ rfl;unfold set6 at p0 p1 p2 p3 p4 p5 HE;exact bodyPost_ret (v:= .agg #[.int .i64 6,.string ⟨#[]⟩,.int .i64 0,.int .i64 n,.int .i64 i,.string ⟨#[]⟩]) (by simp [results,results143,go_sem,p0,p1,p2,p3,p4,p5]) rfl HE
 by_cases h7:k=7
 ·subst h7
  have HP:=hid (HPut.out ⟨#[]⟩ 0 0 i ⟨#[]⟩ (rfl));clear HPut;go_wp2_with fail
  obtain⟨p0,p1,p2,p3,p4,p5,HE⟩:=HP.out _ rfl;unfold set6 at p0 p1 p2 p3 p4 p5 HE;exact bodyPost_ret (v:= .agg #[.int .i64 7,.string ⟨#[]⟩,.int .i64 0,.int .i64 0,.int .i64 i,.string ⟨#[]⟩]) (by simp [results,results143,go_sem,p0,p1,p2,p3,p4,p5]) rfl HE
 by_cases h9:k=9
 ·subst h9
  have HP:=hid (HPut.out ⟨#[]⟩ 0 0 i ⟨#[]⟩ (rfl));clear HPut;go_wp2_with fail
  obtain⟨p0,p1,p2,p3,p4,p5,HE⟩:=HP.out _ rfl;unfold set6 at p0 p1 p2 p3 p4 p5 HE;exact bodyPost_ret (v:= .agg #[.int .i64 9,.string ⟨#[]⟩,.int .i64 0,.int .i64 0,.int .i64 i,.string ⟨#[]⟩]) (by simp [results,results143,go_sem,p0,p1,p2,p3,p4,p5]) rfl HE
 by_cases h8:k=8
 ·subst h8
  have HP:=hid (HPut.out ⟨#[]⟩ 0 0 0 g (rfl));clear HPut;go_wp2_with fail
  obtain⟨p0,p1,p2,p3,p4,p5,HE⟩:=HP.out _ rfl;unfold set6 at p0 p1 p2 p3 p4 p5 HE;exact bodyPost_ret (v:= .agg #[.int .i64 8,.string ⟨#[]⟩,.int .i64 0,.int .i64 0,.int .i64 0,.string g]) (by simp [results,results143,go_sem,p0,p1,p2,p3,p4,p5]) rfl HE
 have g4:(k==4)=false:=by rw [beq_eq_false_iff_ne];exact h4
 have g6:(k==6)=false:=by rw [beq_eq_false_iff_ne];exact h6
 have g7:(k==7)=false:=by rw [beq_eq_false_iff_ne];exact h7
 have g9:(k==9)=false:=by rw [beq_eq_false_iff_ne];exact h9
 have g8:(k==8)=false:=by rw [beq_eq_false_iff_ne];exact h8
 have HM:Hid (opM k p 0 0 0 ⟨#[]⟩=toldM (opM k p o n i g)):=hid (by unfold toldM opM;rw [if_neg h4,if_neg h6,if_neg (fun h=>h.elim h7 h9),if_neg h8]);clear h4 h6 h7 h9 h8;have HP:=hid (HPut.out p 0 0 0 ⟨#[]⟩ (HM.out));clear HPut;go_wp2_with fail
 obtain⟨p0,p1,p2,p3,p4,p5,HE⟩:=HP.out _ rfl;unfold set6 at p0 p1 p2 p3 p4 p5 HE;exact bodyPost_ret (v:= .agg #[.int .i64 k,.string p,.int .i64 0,.int .i64 0,.int .i64 0,.string ⟨#[]⟩]) (by simp [results,results143,go_sem,p0,p1,p2,p3,p4,p5]) rfl HE

def Sl (w:World) (A:Option Addr) (Q:List ByteArray):Prop:=∀(i:Nat) x,Q[i]?=some x→∃b off,A=some ⟨b,off,none⟩∧b<w.heap.size∧w.cell? ⟨b,off+i,none⟩=some (.string x)
theorem Sl.later {w w':World} {A:Option Addr} {Q:List ByteArray} (h:Sl w A Q) (hb:Below w.heap.size w w'):Sl w' A Q:=fun i x hx=>by
 obtain⟨b,off,h1,h2,h3⟩:=h i x hx;exact⟨b,off,h1,Nat.lt_of_lt_of_le h2 hb.size,Jao h3 hb⟩
def dataL (Q:List ByteArray):List (List UInt8):=Q.map fun x=>x.data.toList
theorem Jln:∀L:List (List UInt8),Lib.join L [32]=joinM L
 |[]=>rfl
 |[a]=>by simp [Lib.join,List.intercalate,List.intersperse,joinM]
 |a::b::r=>by
  have ih:=Jln (b::r);rw [joinM,←ih];simp [Lib.join,List.intercalate,List.intersperse_cons_cons]
theorem info9:(Tryz.prog.info? 9).map (fun i=>(i.zero,i.size,i.bytes))=some (some (.string ⟨#[]⟩),1,16):=by kernel_rfl
theorem add_place (b off j:Nat):(⟨b,off,none⟩:Addr).add j=⟨b,off+j,none⟩:=by unfold Addr.add;split<;>simp_all
theorem Jui {w:World} {ad:Addr} {Q:List ByteArray} (h:Sl w (some ad) Q):∀j u,(Q.map Value.string)[j]?=some u→w.cell? (ad.add j)=some u:=fun j u hu=>by
 rw [List.getElem?_map] at hu;obtain⟨x,hx,rfl⟩:=Option.map_eq_some_iff.1 hu;obtain⟨b,off,h1,_,h3⟩:=h j x hx;injection h1 with h1;subst h1;rw [add_place];exact h3
theorem Jxg (Q:List ByteArray):∀u∈Q.map Value.string,u.oneCell'=true:=fun u hu=>by
 obtain⟨x,_,rfl⟩:=List.mem_map.1 hu;rfl
theorem Jxx {w:World} {B n:Nat} {v:Value} {Q:List ByteArray} (h:w.ownsRow B 9 1 v n (Q.map Value.string)) (h0:1≤Q.length):n=Q.length∧∃g cap,v= .slice (some ⟨g,0,none⟩) n cap∧Q.length≤cap∧g<w.heap.size∧∀(j:Nat) x,Q[j]?=some x→w.cell? ⟨g,0+j,none⟩=some (.string x):=by
 have hn:n=Q.length:=by have:=h.1;simpa using this.symm
 refine⟨hn,?_⟩;rcases h.2 with⟨_,hz⟩ |⟨g,cap,cur,hv,_,hg,hc,_⟩
 ·omega
 ·subst hv
  refine⟨g,cap,rfl,by omega,lt_of_some hg,fun j x hx=>?_⟩;have:=h.cells (g:=g) rfl j (.string x) (by rw [List.getElem?_map,hx];rfl);rw [add_place] at this;exact this
theorem Jod (f0:ByteArray) (A:Option Addr) (c:Nat) (Q:List ByteArray) (w:World) (hS:Sl w A Q) (hA:A=none→Q.length=0∧c=0) (hl:(joinM (f0.data.toList::dataL Q)).length≤1000000000) (hQ:Q.length≤1000000):
  Calls prog 60 #[.string f0,.slice A Q.length c] w (StrOut (joinM (f0.data.toList::dataL Q)) w):=by
 obtain⟨i0,hi,hz0,hz1,hz2⟩:=info_parts info9;obtain⟨W1,hW1⟩:=words.nm (w.alloc (.cells #[.string f0] 9));have hb1:=words.b1 hW1;have hO:(w.alloc (.cells #[.string f0] 9)).ownsRow w.heap.size 9 1 (.slice (some ⟨w.heap.size,0,none⟩) 1 1) 1 [.string f0]:=⟨rfl,.inr ⟨w.heap.size,1,#[.string f0],rfl,Nat.le_refl _,heap_alloc_new w _,Nat.le_refl _,by decide,rfl,rfl⟩⟩
 rw [←hW1] at hO;have HO:=hid hO;have HS1:=hid (hS.later hb1);have HB1:=hid hb1;have HL:=hid hl;clear hb1 hO hS hl;subst hW1;go_enter func60,ntmps60
 have HJn:Hid (∀(n:Nat) (v:Value) (w2:World),w2.ownsRow w.heap.size 9 1 v n ((f0::Q).map Value.string)→Below w.heap.size w w2→∃A2 c2,v= .slice A2 n c2∧Calls prog 64 #[.slice A2 n c2,.string ⟨#[32]⟩] w2 (StrOut (joinM (f0.data.toList::dataL Q)) w)):=hid fun n v w2 ho hb=>by
  obtain⟨hn,g,cap,hv,hcap,hg,hc⟩:=Jxx ho (by simp);refine⟨_,_,hv,?_⟩;rw [hn];have he:Lib.join ((f0::Q).map (·.data.toList)) (⟨#[32]⟩:ByteArray).data.toList=joinM (f0.data.toList::dataL Q):=Jln _;have hj:=Tryz.strings_Join g 0 cap (f0::Q) ⟨#[32]⟩ w2 hc hg (by simp only [List.length_cons];omega) hcap (by rw [he];have:=HL.out;omega);rw [he] at hj;exact hj.mono fun e w' ⟨h1,h2⟩=>⟨⟨_,h1,Ja9 _⟩,hb.trans (h2.mono hb.size)⟩
 rcases A with _ |ad
 ·obtain⟨hq,rfl⟩:=hA rfl
  have hQ0:Q=[]:=List.eq_nil_of_length_eq_zero hq;subst hQ0;have HC:=HJn.out 1 _ _ HO.out HB1.out;obtain⟨A2,c2,hv,hC⟩:=HC;injection hv with e1 e2 e3;subst e1;subst e3;have HC2:=hid hC;have t0:([]:List ByteArray).length=0:=rfl;clear HJn hA hq;go_wp2_with (at_builtin;refine wpList_append_own_none rfl (.tmp 6) (.tmp 7) 27 rfl w.heap.size 9 i0 1 underlying27 hi _ _ _ rfl HO.out rfl ?_)
  refine HC2.out.mono ?_;rintro e w3 ⟨⟨r,rfl,hr⟩,hb3⟩;have HF:=hid (And.intro hr hb3);clear hr hb3 HC2;go_wp2_with fail
  go_ret
  exact⟨⟨r,rfl,HF.out.1⟩,HF.out.2⟩
 ·go_wp2_with (at_builtin;refine wpList_append_own _ rfl (.tmp 6) (.tmp 7) 27 rfl w.heap.size 9 i0 _ 1 16 underlying27 hi hz0 hz1 hz2 rfl (by decide) _ _ _ rfl HO.out ad Q.length c (Q.map Value.string) rfl (by simp) (Jui HS1.out) (Jxg Q) (by unfold maxLen;omega) (by omega) HB1.out.size ?_;intro v' w2 hown' hgrow _;have hb2:=keep_grown HB1.out HO.out hgrow (Nat.le_refl _);obtain⟨A2,c2,rfl,hC⟩:=HJn.out _ _ _ hown' hb2;have HC2:=hid hC;clear hown' hgrow hC hb2)
  refine HC2.out.mono ?_;rintro e w3 ⟨⟨r,rfl,hr⟩,hb3⟩;have HF:=hid (And.intro hr hb3);clear hr hb3 HC2;go_wp2_with fail
  go_ret
  exact⟨⟨r,rfl,HF.out.1⟩,HF.out.2⟩

theorem Jhg (w:World) (Q:List ByteArray):Sl (w.alloc (.cells (Q.map Value.string).toArray 9)) (some ⟨w.heap.size,0,none⟩) Q:=fun i x hx=>by
 have hb:(w.alloc (.cells (Q.map Value.string).toArray 9)).heap[w.heap.size]?=some (.cells (Q.map Value.string).toArray 9 (0,0)):=heap_alloc_new w _;refine⟨_,0,rfl,lt_of_some hb,?_⟩;rw [Jaa hb,Nat.zero_add];simp [hx]
structure OpFit (o n i:Int) (p g:ByteArray):Prop where
 o:I64 o
 n:I64 n
 i:I64 i
 p:p.size≤1000000
 g:g.size≤1000000
theorem OpFit.fit {k o n i:Int} {p g:ByteArray} (h:OpFit o n i p g):(opM k p o n i g).fit:=⟨h.o,h.n,h.i⟩

def opI (k:Int) (p:ByteArray) (o n i:Int) (g:ByteArray) (k':Int) (p':ByteArray) (o' n' i':Int) (g':ByteArray):Bool:=decide (opM k p o n i g=opM k' p' o' n' i' g')
theorem Jx1 (k:Int) (p:ByteArray) (o n i:Int) (g:ByteArray) (k':Int) (p':ByteArray) (o' n' i':Int) (g':ByteArray) (w:World):
  (binOp .eql 55 (.agg #[.int .i64 k,.string p,.int .i64 o,.int .i64 n,.int .i64 i,.string g]) (.agg #[.int .i64 k',.string p',.int .i64 o',.int .i64 n',.int .i64 i',.string g'])).run prog w= .ok (.bool (opI k p o n i g k' p' o' n' i' g')) w:=by
 have e:opI k p o n i g k' p' o' n' i' g'=(k==k'&&(p.toList==p'.toList&&(o==o'&&(n==n'&&(i==i'&&g.toList==g'.toList))))):=by
  unfold opI opM;rw [Bool.eq_iff_iff];simp [to_list]
 rw [e];go_simp
 by_cases h1:k=k'<;>by_cases h2:p.toList=p'.toList<;>by_cases h3:o=o'<;>by_cases h4:n=n'<;>by_cases h5:i=i'<;>by_cases h6:g.toList=g'.toList<;>simp [h1,h2,h3,h4,h5,h6]
theorem contains10 (p:ByteArray) (w:World):Calls prog 142 #[.string p,.string ⟨#[10]⟩] w fun e w'=>e= .returned (.bool (decide (10∈p.data.toList)))∧w'=w:=by
 refine (Tryz.strings_Contains_one p 10 w).mono fun e w' ⟨h1,h2⟩=>⟨?_,h2⟩
 rw [h1];congr 2;rw [Bool.eq_iff_iff];simp only [decide_eq_true_eq];constructor
 ·intro h
  have:=Lib.indexByte_some (l:=p.data.toList) (c:=10) (o:=(Lib.indexByte p.data.toList 10).toNat) (by omega);exact List.mem_of_getElem? this.1
 ·intro h
  rcases Lib.indexByte_ge p.data.toList 10 with hg;by_cases hn:Lib.indexByte p.data.toList 10= -1
  ·obtain⟨i,hi⟩:=List.getElem?_of_mem h
   exact absurd hi (Lib.indexByte_none hn i)
  ·have:=Lib.indexByte_ge p.data.toList 10
   omega
end Go.Proofs.YtekekhgjobahaaaGreatDoor.cal
