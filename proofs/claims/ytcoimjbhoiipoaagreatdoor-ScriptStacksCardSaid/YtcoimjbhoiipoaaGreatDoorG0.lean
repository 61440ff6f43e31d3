import Derived.Lib.CutLaws
import Derived.Lib.ItoaLen
import Derived.Lib.AtoiAllCases
import Derived.Deep.AppendLies
import Derived.StillTailTactics
import Derived.Deep.Cut
import Derived.WalkSpells
import Derived.WalkLawsBesides
import Derived.BigQuiet
import Derived.Test.YtcoimjbhoiipoaaGreatDoorRows
import Derived.Stop.LaidErr
import Derived.Shelf.Vars
import Derived.LaidMore
import Derived.Lay
import Derived.Deep.RegionHeld3
set_option maxRecDepth 100000
open Go.Proofs.Tryz
namespace Go.Proofs.YtcoimjbhoiipoaaGreatDoor.cal
open Go.Lib

def hexD (n:Nat):UInt8:=if n<10 then UInt8.ofNat (48+n) else UInt8.ofNat (87+n)
def dgs:List UInt8:=[48,49,50,51,52,53,54,55,56,57,97,98,99,100,101,102]
def hexP:List UInt8→List UInt8
 |[]=>[]
 |b::r=>hexD (b.toNat / 16)::hexD (b.toNat % 16)::hexP r
def hexL (l:List UInt8):List UInt8:=if l=[] then [45] else hexP l
def unP:List UInt8→Option (List UInt8)
 |[]=>some []
 |[_]=>none
 |a::b::r=>if indexByte dgs a<0∨indexByte dgs b<0 then none else (unP r).map (UInt8.ofNat (16*(indexByte dgs a).toNat+(indexByte dgs b).toNat)::·)
def unH (w:List UInt8):Option (List UInt8):=if w=[45] then some [] else if w=[] then none else unP w

theorem Jqw:∀n:Fin 16,indexByte dgs (hexD n.val)=(n.val:Int):=by decide+kernel
theorem dig (n:Nat) (h:n<16):indexByte dgs (hexD n)=(n:Int):=Jqw ⟨n,h⟩
theorem Jm0:∀c:Fin 256,indexByte dgs (UInt8.ofNat c.val)= -1∨(0≤indexByte dgs (UInt8.ofNat c.val)∧indexByte dgs (UInt8.ofNat c.val)<16∧hexD (indexByte dgs (UInt8.ofNat c.val)).toNat=UInt8.ofNat c.val):=by decide+kernel
theorem undig (c:UInt8):indexByte dgs c= -1∨(0≤indexByte dgs c∧indexByte dgs c<16∧hexD (indexByte dgs c).toNat=c):=by
 have h:=Jm0 ⟨c.toNat,c.toNat_lt⟩;simpa using h
theorem Jkn:∀l:List UInt8,unP (hexP l)=some l
 |[]=>rfl
 |b::r=>by
  have hb:=b.toNat_lt;have h1:=dig (b.toNat / 16) (by omega);have h2:=dig (b.toNat % 16) (by omega);show (if _ then _ else _)=_;rw [h1,h2,if_neg (by omega),Jkn r];have:16*((b.toNat / 16:Nat):Int).toNat+((b.toNat % 16:Nat):Int).toNat=b.toNat:=by omega
  rw [this];simp
theorem Jj8:∀(w l:List UInt8),unP w=some l→hexP l=w
 |[],l,h=>by simp only [unP,Option.some.injEq] at h;subst h;rfl
 |[_],l,h=>by cases h
 |a::b::r,l,h=>by
  have h:(if indexByte dgs a<0∨indexByte dgs b<0 then none else (unP r).map (UInt8.ofNat (16*(indexByte dgs a).toNat+(indexByte dgs b).toNat)::·))=some l:=h;split at h
  ·cases h
  ·rename_i hn
   obtain⟨t,ht,rfl⟩:=Option.map_eq_some_iff.1 h;have ih:=Jj8 r t ht;rcases undig a with ha |⟨a0,a1,a2⟩
   ·omega
   rcases undig b with hb |⟨b0,b1,b2⟩
   ·omega
   show _::_::hexP t=_;have e:(UInt8.ofNat (16*(indexByte dgs a).toNat+(indexByte dgs b).toNat)).toNat=16*(indexByte dgs a).toNat+(indexByte dgs b).toNat:=by
    rw [UInt8.toNat_ofNat'];omega
   rw [e,ih,show (16*(indexByte dgs a).toNat+(indexByte dgs b).toNat) / 16=(indexByte dgs a).toNat by omega,show (16*(indexByte dgs a).toNat+(indexByte dgs b).toNat) % 16=(indexByte dgs b).toNat by omega,a2,b2]
theorem Jgy:∀l:List UInt8,(hexP l).length=2*l.length
 |[]=>rfl
 |b::r=>by show (hexP r).length+1+1=2*(r.length+1);rw [Jgy r];omega
theorem Jj9 (l:List UInt8):unH (hexL l)=some l:=by
 unfold unH hexL;by_cases h:l=[]
 ·subst h;rfl
 ·rw [if_neg h]
  have h1:=Jgy l;have h2:1≤l.length:=List.length_pos_iff.2 h;rw [if_neg (fun e=>by rw [e] at h1;simp at h1;omega),if_neg (fun e=>by rw [e] at h1;simp at h1;omega)];exact Jkn l
theorem Jo1 {w l:List UInt8} (h:unH w=some l):hexL l=w:=by
 unfold unH at h;by_cases h1:w=[45]
 ·rw [if_pos h1] at h
  injection h with h;subst h;exact h1.symm
 ·rw [if_neg h1] at h
  by_cases h2:w=[]
  ·rw [if_pos h2] at h;cases h
  ·rw [if_neg h2] at h
   have h3:=Jj8 w l h;unfold hexL;rw [if_neg,h3];rintro rfl;exact h2 h3.symm
theorem Jhf {u:Nat} (h:u<10):decDigits u=[UInt8.ofNat (48+u)]:=by rw [decDigits,dif_pos h]
theorem Jqk {u:Nat} (h:¬u<10):decDigits u=decDigits (u / 10)++[UInt8.ofNat (48+u % 10)]:=by rw [decDigits,dif_neg h]
theorem Jis:∀(l:List UInt8) (acc u:Nat) (c:UInt8),parseUint10 acc l= .ok u→48≤c.toNat→c.toNat≤57→u*10+(c.toNat - 48)<18446744073709551616→parseUint10 acc (l++[c])= .ok (u*10+(c.toNat - 48))
 |[],acc,u,c,h,h1,h2,h3=>by
  simp only [parseUint10] at h;injection h with h;subst h;simp only [List.nil_append,parseUint10];rw [if_pos ⟨h1,h2⟩,if_neg (by omega),if_neg (by omega)]
 |b::r,acc,u,c,h,h1,h2,h3=>by
  simp only [parseUint10,List.cons_append] at h ⊢;split at h
  ·rename_i hb
   rw [if_pos hb];split at h
   ·cases h
   ·rename_i hc
    rw [if_neg hc];split at h
    ·cases h
    ·rename_i hd
     rw [if_neg hd];exact Jis r _ u c h h1 h2 h3
  ·cases h
theorem Jkb (k:Nat) (h:k<10):(UInt8.ofNat (48+k)).toNat=48+k:=by rw [UInt8.toNat_ofNat'];omega
theorem Jkq:∀(n u:Nat),u<n→u<18446744073709551616→parseUint10 0 (decDigits u)= .ok u
 |0,u,h,_=>absurd h (Nat.not_lt_zero _)
 |n+1,u,h,hu=>by
  by_cases h1:u<10
  ·rw [Jhf h1]
   have e:=Jkb u h1;simp only [parseUint10,e];rw [if_pos (by omega),if_neg (by omega),if_neg (by omega)];congr 1;omega
  ·rw [Jqk h1]
   have e:=Jkb (u % 10) (by omega);have ih:=Jkq n (u / 10) (by omega) (by omega);have:=Jis _ 0 _ (UInt8.ofNat (48+u % 10)) ih (by omega) (by omega) (by rw [e];omega);rw [this,e];congr 1;omega
theorem Jsl (u:Nat):decDigits u≠[]:=fun h=>by
 have:=decDigits_length u;rw [h] at this;have:=nDigits_pos u;simp at*;omega
theorem Jc1:∀(n u:Nat),u<n→∀c∈decDigits u,48≤c.toNat∧c.toNat≤57
 |0,u,h=>absurd h (Nat.not_lt_zero _)
 |n+1,u,h=>fun c hc=>by
  by_cases h1:u<10
  ·rw [Jhf h1] at hc
   obtain rfl:c=UInt8.ofNat (48+u):=by simpa using hc
   rw [Jkb u h1];omega
  ·rw [Jqk h1] at hc
   rcases List.mem_append.1 hc with hc |hc
   ·exact Jc1 n (u / 10) (by omega) c hc
   ·obtain rfl:c=UInt8.ofNat (48+u % 10):=by simpa using hc
    rw [Jkb (u % 10) (by omega)];omega
theorem Jqm (u:Nat) (hu:u<18446744073709551616):parseMag (decDigits u)= .ok u:=by
 unfold parseMag;rw [if_neg (Jsl u)];exact Jkq (u+1) u (Nat.lt_succ_self _) hu
theorem Jm4 (n:Int) (h0: -9223372036854775808≤n) (h1:n≤9223372036854775807):atoiAll (itoa n)= .ok n:=by
 unfold itoa;by_cases h:n<0
 ·rw [if_pos h,atoiAll_minus,Jqm _ (by omega)]
  show (if _ then _ else _)=_;rw [if_neg (by omega)];congr 1;omega
 ·rw [if_neg h]
  obtain⟨c,r,hc⟩:=List.exists_cons_of_ne_nil (Jsl n.toNat);have hd:=Jc1 (n.toNat+1) n.toNat (Nat.lt_succ_self _) c (by rw [hc];exact List.mem_cons_self ..);have hm:=Jqm n.toNat (by omega);rw [hc] at hm ⊢;rw [atoiAll_plain c r (by omega) (by omega),hm];show (if _ then _ else _)=_;rw [if_neg (by omega)];congr 1;omega
def numP (w:List UInt8):Option Int:=match atoiAll w with
 | .ok v=>if itoa v=w then some v else none
 |_=>none
theorem Jbu (n:Int) (h0: -9223372036854775808≤n) (h1:n≤9223372036854775807):numP (itoa n)=some n:=by
 unfold numP;rw [Jm4 n h0 h1];exact if_pos rfl
theorem Jci {w:List UInt8} {n:Int} (h:numP w=some n):itoa n=w∧ -9223372036854775808≤n∧n≤9223372036854775807:=by
 unfold numP at h;cases ha:atoiAll w with
 |ok v=>
  rw [ha] at h;have h:(if itoa v=w then some v else none)=some n:=h;by_cases hi:itoa v=w
  ·rw [if_pos hi] at h
   injection h with h;subst h;exact⟨hi,atoiAll_bounds ha⟩
  ·rw [if_neg hi] at h;cases h
 |range=>rw [ha] at h;cases h
 |_=>rw [ha] at h;cases h
theorem Jd0 (n:Int):32 ∉ itoa n:=by
 unfold itoa;split
 ·intro h
  rcases List.mem_cons.1 h with h |h
  ·revert h;decide
  ·have:=Jc1 (n.natAbs+1) n.natAbs (Nat.lt_succ_self _) _ h
   revert this;decide
 ·intro h
  have:=Jc1 (n.toNat+1) n.toNat (Nat.lt_succ_self _) _ h;revert this;decide

def cutL (l:List UInt8):List UInt8×List UInt8×Bool:=cut l [32]
theorem Jkt {l:List UInt8} {i:Nat} (h:occAt l [32] i=true):∃t,l.drop i=32::t:=by
 unfold occAt at h;rcases hd:l.drop i with _ |⟨c,t⟩
 ·rw [hd] at h;cases h
 ·rw [hd] at h
  have:(32==c)=true:=by simpa [List.isPrefixOf] using h
  exact⟨t,by rw [←eq_of_beq this]⟩
theorem Jme {l a b:List UInt8} (h:cutL l=(a,b,true)):l=a++32::b:=by
 unfold cutL cut at h;rcases index_spec l [32] with⟨h1,_⟩ |⟨i,h1,h2,h3,_⟩
 ·rw [h1,if_neg (by decide)] at h
  cases h
 ·rw [h1,if_pos (by omega)] at h
  obtain⟨t,ht⟩:=Jkt h3;simp only [Prod.mk.injEq,Int.toNat_natCast,List.length_singleton,and_true] at h;obtain⟨rfl,rfl⟩:=h;have e:l.drop (i+1)=t:=by rw [←List.drop_drop,ht];rfl
  rw [e,←ht,List.take_append_drop]
theorem Jg3 (a b:List UInt8) (h:32 ∉ a):cutL (a++32::b)=(a,b,true):=by
 unfold cutL cut;have hi:index (a++32::b) [32]=(a.length:Int):=by
  refine index_first (by simp) (by unfold occAt;rw [List.drop_left];simp [List.isPrefixOf]) fun j hj=>?_;rw [Bool.eq_false_iff];intro ho;obtain⟨t,ht⟩:=Jkt ho;have h1:(a++32::b)[j]?=some 32:=by
   have:=congrArg (·[0]?) ht;simpa using this
  rw [List.getElem?_append_left hj] at h1;exact h (List.mem_of_getElem? h1)
 rw [hi,if_pos (by omega)];simp
theorem Joh {l a b:List UInt8} (h:cutL l=(a,b,false)):a=l∧b=[]:=by
 unfold cutL cut at h;split at h
 ·cases h
 ·injection h with h1 h2
  injection h2 with h2 _;exact⟨h1.symm,h2.symm⟩

structure Op where
 K:Int
 P:List UInt8
 O:Int
 N:Int
 I:Int
 G:List UInt8
 deriving DecidableEq
def wds:List (List UInt8):=[[],[108,111,111,107,117,112],[115,116,97,116],[114,101,97,100,108,105,110,107],[114,101,97,100],[111,112,101,110],[112,97,103,101],[99,108,111,115,101],[97,100,100],[114,101,109,111,118,101]]
def wordL (k:Int):List UInt8:=if k<0∨10≤k then [] else wds.getD k.toNat []
def kindL (w:List UInt8):Int:=((wds.findIdx? (·==w)).getD 0:Nat)
def toldM (o:Op):Op:=
 if o.K=4 then ⟨o.K,o.P,o.O,o.N,0,[]⟩ else if o.K=6 then ⟨o.K,[],0,o.N,o.I,[]⟩ else if o.K=7∨o.K=9 then ⟨o.K,[],0,0,o.I,[]⟩ else if o.K=8 then ⟨o.K,[],0,0,0,o.G⟩ else ⟨o.K,o.P,0,0,0,[]⟩
def rightM (o:Op):Bool:=decide (wordL o.K≠[])&&(!decide (10∈o.P))&&decide (o=toldM o)
def restM (o:Op):List (List UInt8):=
 if o.K=4 then [itoa o.O,itoa o.N,o.P] else if o.K=6 then [itoa o.I,itoa o.N] else if o.K=7∨o.K=9 then [itoa o.I] else if o.K=8 then [hexL o.G] else [o.P]
def joinM:List (List UInt8)→List UInt8
 |[]=>[]
 |[a]=>a
 |a::b::r=>a++32::joinM (b::r)
def textM (o:Op):List UInt8:=if wordL o.K=[] then [] else joinM (wordL o.K::restM o)
def numsM (a b:List UInt8):Option (Int×Int):=match numP a,numP b with
 |some x,some y=>some (x,y)
 |_,_=>none
def readM (k:Int) (s:List UInt8):Option Op:=
 if k=4 then (if (cutL (cutL s).2.1).2.2 then (numsM (cutL s).1 (cutL (cutL s).2.1).1).map fun x=>⟨k,(cutL (cutL s).2.1).2.1,x.1,x.2,0,[]⟩ else none)
 else if k=6 then (numsM (cutL s).1 (cutL s).2.1).map fun x=>⟨k,[],0,x.2,x.1,[]⟩
 else if k=7∨k=9 then (numP s).map fun x=>⟨k,[],0,0,x,[]⟩
 else if k=8 then (unH s).map fun x=>⟨k,[],0,0,0,x⟩
 else some ⟨k,s,0,0,0,[]⟩
def parseM (l:List UInt8):Option Op:=
 if (cutL l).2.2 then (match readM (kindL (cutL l).1) (cutL l).2.1 with
   |some o=>if rightM o then some o else none
   |none=>none) else none
def onlyM (o:Op):Bool:=
 !decide (10∈o.P)&&(
   if o.K=1∨o.K=2∨o.K=3∨o.K=5 then decide (o.O=0)&&decide (o.N=0)&&decide (o.I=0)&&decide (o.G=[])
   else if o.K=4 then decide (o.I=0)&&decide (o.G=[])
   else if o.K=6 then decide (o.P=[])&&decide (o.O=0)&&decide (o.G=[])
   else if o.K=7∨o.K=9 then decide (o.P=[])&&decide (o.O=0)&&decide (o.N=0)&&decide (o.G=[])
   else if o.K=8 then decide (o.P=[])&&decide (o.O=0)&&decide (o.N=0)&&decide (o.I=0)
   else false)
theorem Jd8 (k:Int):(k=1∨k=2∨k=3∨k=4∨k=5∨k=6∨k=7∨k=8∨k=9)∨wordL k=[]∧¬(1≤k∧k≤9):=by
 by_cases h:1≤k∧k≤9
 ·left;omega
 ·right
  refine⟨?_,h⟩;unfold wordL;split
  ·rfl
  ·obtain rfl:k=0:=by omega
   rfl
theorem Jif (k:Int) (h:1≤k∧k≤9):kindL (wordL k)=k∧32 ∉ wordL k∧wordL k≠[]:=by
 have:k=1∨k=2∨k=3∨k=4∨k=5∨k=6∨k=7∨k=8∨k=9:=by omega
 rcases this with rfl |rfl |rfl |rfl |rfl |rfl |rfl |rfl |rfl<;>decide
theorem Jfd (a b:List UInt8):joinM [a,b]=a++32::b:=rfl
theorem Jjn (a b c:List UInt8):joinM [a,b,c]=a++32::(b++32::c):=rfl
theorem Jlo (a b c d:List UInt8):joinM [a,b,c,d]=a++32::(b++32::(c++32::d)):=rfl
def Op.fit (o:Op):Prop:=(-9223372036854775808≤o.O∧o.O≤9223372036854775807)∧(-9223372036854775808≤o.N∧o.N≤9223372036854775807)∧(-9223372036854775808≤o.I∧o.I≤9223372036854775807)
theorem Jla (o:Op) (hr:rightM o=true) (hf:o.fit):parseM (textM o)=some o:=by
 obtain⟨⟨o0,o1⟩,⟨n0,n1⟩,⟨i0,i1⟩⟩:=hf;have hr':=hr;unfold rightM at hr';simp only [Bool.and_eq_true,decide_eq_true_eq] at hr';obtain⟨⟨hw,_⟩,ht⟩:=hr';have hk:1≤o.K∧o.K≤9:=by
  rcases Jd8 o.K with h |⟨h,_⟩
  ·omega
  ·exact absurd h hw
 obtain⟨hk1,hk2,hk3⟩:=Jif o.K hk;have key:∀s,textM o=wordL o.K++32::s→readM o.K s=some o→parseM (textM o)=some o:=fun s h1 h2=>by
  unfold parseM;rw [h1,Jg3 _ _ hk2];simp only [hk1,h2,if_true,hr]
 unfold textM at key ⊢;rw [if_neg hk3] at key ⊢;unfold toldM at ht;unfold restM at key ⊢;by_cases h4:o.K=4
 ·rw [if_pos h4] at key ht ⊢
  refine key _ (Jlo _ _ _ _) ?_;unfold readM;rw [if_pos h4,Jg3 _ _ (Jd0 _)];simp only;rw [Jg3 _ _ (Jd0 _)];simp only [numsM,Jbu _ o0 o1,Jbu _ n0 n1,if_true,Option.map_some];rw [←ht]
 rw [if_neg h4] at key ht ⊢;by_cases h6:o.K=6
 ·rw [if_pos h6] at key ht ⊢
  refine key _ (Jjn _ _ _) ?_;unfold readM;rw [if_neg h4,if_pos h6,Jg3 _ _ (Jd0 _)];simp only [numsM,Jbu _ i0 i1,Jbu _ n0 n1,Option.map_some];rw [←ht]
 rw [if_neg h6] at key ht ⊢;by_cases h7:o.K=7∨o.K=9
 ·rw [if_pos h7] at key ht ⊢
  refine key _ (Jfd _ _) ?_;unfold readM;rw [if_neg h4,if_neg h6,if_pos h7,Jbu _ i0 i1,Option.map_some,←ht]
 rw [if_neg h7] at key ht ⊢;by_cases h8:o.K=8
 ·rw [if_pos h8] at key ht ⊢
  refine key _ (Jfd _ _) ?_;unfold readM;rw [if_neg h4,if_neg h6,if_neg h7,if_pos h8,Jj9,Option.map_some,←ht]
 rw [if_neg h8] at key ht ⊢;refine key _ (Jfd _ _) ?_;unfold readM;rw [if_neg h4,if_neg h6,if_neg h7,if_neg h8,←ht]
end Go.Proofs.YtcoimjbhoiipoaaGreatDoor.cal

namespace Go.Proofs.YtcoimjbhoiipoaaGreatDoor.words
open Go.RowKit

open Go.RowKit in
theorem tk {P:Program} {ops:Array Oper} {Q:Exit→Act→World→Prop} {md:Region.Mode} {S:World→Prop} (i:Nat) (d:Tmp) {x2 x3 x4 x5 x6} {v:Value} {fuel:Nat} {listed:Array Bool} {a:Act} {w:World}
  (hv:∀w',S w'→(execOp a.eval ⟨some d,x2,x3,x4,x5,x6⟩).run P w'= .ok (.value v) w') (h:wpAnyH P md ops Q S fuel (listed.setIfInBounds i true) (a.put (some d) v) w) (hi:ops[i]?=some ⟨some d,x2,x3,x4,x5,x6⟩:=by rfl)
  (hk:(Region.noSelect ops&&Region.free md ops listed i&&(Region.ready md ops listed).contains i&&Region.wanted ⟨some d,x2,x3,x4,x5,x6⟩ (yielded ops a.tmps))=true:=by kernel_rfl) (hQ:∀c a w,Q (.panic c) (a.put (some d) v) w→Q (.panic c) a w:=by exact fun _ _ _ h=>h) (hS:S w:=by assumption):wpAnyH P md ops Q S (fuel+1) listed a w:=by
 simp only [Bool.and_eq_true] at hk;obtain⟨⟨⟨h1,h2⟩,h3⟩,h4⟩:=hk;exact wpAnyH_take hi h1 h2 h3 hQ (.inl ⟨h4,hv⟩) hS h
open Go.RowKit in
theorem pt:(∀(a:Act) (d:Tmp) v,a.put (some d) v={a with tmps:=a.tmps.setIfInBounds d v})∧(∀(l:List Bool) i b,l.toArray.setIfInBounds i b=(l.set i b).toArray)∧(∀(l:List Value) i b,l.toArray.setIfInBounds i b=(l.set i b).toArray)∧(∀(x:Bool) l b,(x::l).set 0 b=b::l)∧(∀(x:Value) l b,(x::l).set 0 b=b::l)∧(∀(x:Bool) l i b,(x::l).set (i+1) b=x::l.set i b)∧(∀(x:Value) l i b,(x::l).set (i+1) b=x::l.set i b):=by
 refine⟨?_,?_,?_,?_,?_,?_,?_⟩<;>intros<;>simp [Act.put]
theorem b1 {w W:Go.World} {o:Go.Obj} (h:W=w.alloc o):Go.RowKit.Below w.heap.size w W:=h▸(Go.RowKit.Below.refl _ _).alloc (Nat.le_refl _) o
theorem nm {α:Sort _} (a:α):∃b,b=a:=⟨_,rfl⟩
structure Kept (S:TypeId→Prop) (B:Nat) (w w':World):Prop where
 os:w'.os=w.os
 tape:w'.tape=w.tape
 output:w'.output=w.output
 size:w.heap.size≤w'.heap.size
 block:∀k,k<w.heap.size→(k<B∨∀cs t f,w.heap[k]?=some (.cells cs t f)→¬S t)→w'.heap[k]?=w.heap[k]?

theorem lt_of_some {w:World} {k:Nat} {o:Obj} (h:w.heap[k]?=some o):k<w.heap.size:=by
 rcases Nat.lt_or_ge k w.heap.size with hlt |hge
 ·exact hlt
 ·rw [Array.getElem?_eq_none hge] at h;cases h

section
variable {S:TypeId→Prop} {B:Nat} {a w w':World}
theorem Kept.refl (S:TypeId→Prop) (B:Nat) (w:World):Kept S B w w:=⟨rfl,rfl,rfl,Nat.le_refl _,fun _ _ _=>rfl⟩
theorem Kept.drew (h:Kept S B a w):Kept S B a w.drew:=⟨h.os,h.tape,h.output,h.size,h.block⟩
theorem Kept.drewN (h:Kept S B a w) (n:Nat):Kept S B a (w.drewN n):=⟨h.os,h.tape,h.output,h.size,h.block⟩
theorem Kept.alloc (h:Kept S B a w) (o:Obj):Kept S B a (w.alloc o):=
 ⟨h.os,h.tape,h.output,Nat.le_trans h.size (by simp),fun k hk hc=>(Below.heap_alloc w o k (Nat.lt_of_lt_of_le hk h.size)).trans (h.block k hk hc)⟩
theorem Kept.setCell (h:Kept S B a w) {p:Addr} (hB:B≤p.block) (hS:∃cs t f,w.heap[p.block]?=some (.cells cs t f)∧S t) (u:Value):Kept S B a (w.setCell p u):=by
 refine⟨h.os,h.tape,h.output,by simpa [World.setCell] using h.size,fun k hk hc=>?_⟩;by_cases hkp:k=p.block
 ·subst hkp
  obtain⟨cs,t,f,hw,hs⟩:=hS;rcases hc with hc |hc
  ·omega
  ·have:=h.block _ hk (.inr hc)
   rw [hw] at this;exact absurd hs (hc cs t f this.symm)
 ·exact (Below.heap_setCell w p u k hkp).trans (h.block k hk hc)
theorem Kept.grown {e:TypeId} {size n:Nat} {v:Value} {xs:List Value} {base:Nat} (h:Kept S B a w) (hg:w.grownBy w' v.ownBlock) (hown:w.ownsRow base e size v n xs) (hB:B≤base) (he:S e):Kept S B a w':=by
 refine⟨hg.os.trans h.os,hg.tape.trans h.tape,hg.output.trans h.output,Nat.le_trans h.size hg.size,fun k hk hc=>?_⟩;have hkw:k<w.heap.size:=Nat.lt_of_lt_of_le hk h.size;by_cases hkv:some k=v.ownBlock
 ·rcases hown.2 with⟨rfl,_⟩ |⟨g,cap,cur,rfl,hbg,hh,_⟩
  ·simp [Value.ownBlock] at hkv
  ·have hkg:k=g:=by simpa [Value.ownBlock] using hkv
   subst hkg;rcases hc with hc |hc
   ·omega
   ·have:=h.block _ hk (.inr hc)
    rw [hh] at this;exact absurd he (hc _ _ _ this.symm)
 ·exact (hg.block k hkw hkv).trans (h.block k hk hc)
theorem Kept.trans (h:Kept S B a w) (h':Kept S B w w'):Kept S B a w':=
 ⟨h'.os.trans h.os,h'.tape.trans h.tape,h'.output.trans h.output,Nat.le_trans h.size h'.size,fun k hk hc=>by
   have e:=h.block k hk hc;exact (h'.block k (Nat.lt_of_lt_of_le hk h.size) (hc.imp id fun hc cs t f hw=>hc cs t f (e.symm.trans hw))).trans e⟩
theorem Kept.mono {B':Nat} (h:Kept S B a w) (hB:B'≤B):Kept S B' a w:=
 ⟨h.os,h.tape,h.output,h.size,fun k hk hc=>h.block k hk (hc.imp (fun hc=>Nat.lt_of_lt_of_le hc hB) id)⟩
theorem Kept.below (h:Kept S B a w) (hB:B≤a.heap.size):Below B a w:=
 ⟨h.os,h.tape,h.output,h.size,fun k hk=>h.block k (Nat.lt_of_lt_of_le hk hB) (.inl hk)⟩
theorem Kept.of_below (h:Below a.heap.size a w) (S:TypeId→Prop) (B:Nat):Kept S B a w:=
 ⟨h.os,h.tape,h.output,h.size,fun k hk _=>h.block k hk⟩
theorem Kept.blk {k:Nat} {cs:Array Value} {t:TypeId} {f:Nat×Nat} (h:Kept S B a w) (hb:a.heap[k]?=some (.cells cs t f)) (hn:¬S t):w.heap[k]?=some (.cells cs t f):=
 (h.block k (lt_of_some hb) (.inr fun cs' t' f' hw=>by rw [hb] at hw;injection hw with hw;injection hw with _ ht;subst ht;exact hn)).trans hb
theorem Kept.own {base:Nat} {e:TypeId} {size n:Nat} {v:Value} {xs:List Value} (h:Kept S B a w) (hown:a.ownsRow base e size v n xs) (hn:¬S e):w.ownsRow base e size v n xs:=by
 refine⟨hown.1,?_⟩;rcases hown.2 with h0 |⟨g,cap,cur,hv,hb,hh,hr⟩
 ·exact .inl h0
 ·exact .inr ⟨g,cap,cur,hv,hb,h.blk hh hn,hr⟩
end

theorem Jaa {w:World} {g:Nat} {cs:Array Value} {t:TypeId} {f:Nat×Nat} (h:w.heap[g]?=some (.cells cs t f)) (i:Nat):w.cell? ⟨g,i,none⟩=cs[i]?:=cell_of_row w g i cs t f h
theorem Jab {w:World} {g:Nat} {cs:Array Value} {t:TypeId} (h:w.heap[g]?=some (.cells cs t (0,0))) (i:Nat):w.frozen? ⟨g,i,none⟩=false:=by
 simp [World.frozen?,h]
theorem Jb0 {w:World} {g:Nat} {t:TypeId} {f:Nat×Nat} {v:Value} (h:w.heap[g]?=some (.cells #[v] t f)) (u:Value):(w.setCell ⟨g,0,none⟩ u).heap[g]?=some (.cells #[u] t f):=by
 simp [World.setCell,Array.getElem?_modify,h]
theorem Ja3 {w:World} {g g':Nat} {cs cs':Array Value} {t t':TypeId} {f f':Nat×Nat} (h:w.heap[g]?=some (.cells cs t f)) (h':w.heap[g']?=some (.cells cs' t' f')) (hne:t≠t'):g≠g':=by
 rintro rfl;rw [h] at h';injection h' with h';injection h' with _ ht;exact hne ht
theorem Jbc {w:World} {base:Nat} {e:TypeId} {size n:Nat} {v:Value} {xs:List Value} {g:Nat} {cs:Array Value} {t:TypeId} {f:Nat×Nat} (h:w.ownsRow base e size v n xs) (hg:w.heap[g]?=some (.cells cs t f)) (hne:e≠t):v.ownBlock≠some g:=by
 rcases h.2 with⟨rfl,_⟩ |⟨g',cap,cur,rfl,_,hh,_⟩
 ·simp [Value.ownBlock]
 ·intro he
  have:g'=g:=by simpa [Value.ownBlock] using he
  subst this;exact Ja3 hh hg hne rfl
theorem Jae {w:World} {base:Nat} {e:TypeId} {size n:Nat} {v:Value} {xs:List Value} {p:Addr} (h:w.ownsRow base e size v n xs) (hne:v.ownBlock≠some p.block) (u:Value):(w.setCell p u).ownsRow base e size v n xs:=by
 refine⟨h.1,?_⟩;rcases h.2 with h0 |⟨g,cap,cur,rfl,hb,hh,hr⟩
 ·exact .inl h0
 ·exact .inr ⟨g,cap,cur,rfl,hb,(Below.heap_setCell w p u g (fun e=>hne (by simp [Value.ownBlock,e]))).trans hh,hr⟩

theorem Jhn {w:World} {base:Nat} {e:TypeId} {size n:Nat} {v:Value} {xs:List Value} (h:w.ownsRow base e size v n xs):∃A l c,v= .slice A l c:=by
 rcases h.2 with⟨rfl,_⟩ |⟨g,cap,cur,rfl,_⟩
 ·exact⟨_,_,_,rfl⟩
 ·exact⟨_,_,_,rfl⟩

end Go.Proofs.YtcoimjbhoiipoaaGreatDoor.words

namespace Go.Proofs.YtcoimjbhoiipoaaGreatDoor.cal
open Go.RowKit words

structure Env (m:Int) (w:World):Prop where
 tab:Lib.TabIs prog w "internal/strconv.uint64pow10" .u64 Lib.pow10Tab
 syn:∃tp p,w.var? prog "strconv.ErrSyntax" =some #[.iface tp p]
 rng:∃tp p,w.var? prog "strconv.ErrRange" =some #[.iface tp p]
 max:w.cell? ⟨0,0,none⟩=some (.int .i64 m)
 wds:∀(i:Nat) x,wds[i]?=some x→w.cell? ⟨1,i,none⟩=some (.string ⟨x.toArray⟩)
theorem below_cell {w w':World} {a:Addr} {v:Value} (h:w.cell? a=some v) (hb:Below w.heap.size w w'):w'.cell? a=some v:=by
 have hlt:a.block<w.heap.size:=by
  unfold World.cell? at h;rcases Nat.lt_or_ge a.block w.heap.size with hl |hl
  ·exact hl
  ·rw [Array.getElem?_eq_none hl] at h;simp at h
 exact (World.cell?_of_block (hb.block _ hlt)).trans h
theorem Jfj {w w':World} {P:Program} {n:String} {cs:Array Value} (h:w.var? P n=some cs) (hb:Below w.heap.size w w'):w'.var? P n=some cs:=by
 unfold World.var? at h ⊢;cases hg:P.globalNamed n with
 |none=>rw [hg] at h;cases h
 |some g=>
  rw [hg] at h;simp only [Option.bind_some] at h ⊢;have hlt:g<w.heap.size:=by
   rcases Nat.lt_or_ge g w.heap.size with hl |hl
   ·exact hl
   ·rw [Array.getElem?_eq_none hl] at h;simp at h
  rw [hb.block g hlt];exact h
theorem Env.later {m:Int} {w w':World} (h:Env m w) (hb:Below w.heap.size w w'):Env m w':=
 ⟨Jfj h.tab hb,h.syn.imp fun _ ⟨p,hp⟩=>⟨p,Jfj hp hb⟩,h.rng.imp fun _ ⟨p,hp⟩=>⟨p,Jfj hp hb⟩,below_cell h.max hb,fun i x hx=>below_cell (h.wds i x hx) hb⟩
theorem Env.drew {m:Int} {w:World} (h:Env m w) (n:Nat):Env m (w.drewN n):=h.later ⟨rfl,rfl,rfl,Nat.le_refl _,fun _ _=>rfl⟩
theorem size_list (s:ByteArray):s.data.toList.length=s.size:=by rw [Array.length_toList];rfl
theorem Jbn (s:ByteArray) (k:Nat) (h:k<s.size):s.data.toList.take (k+1)=s.data.toList.take k++[s[k]]:=by
 rw [List.take_succ_eq_append_getElem (by simpa using h)];rfl
theorem to_list (s:ByteArray):s.toList=s.data.toList:=ByteArray.toList_eq s
theorem Jcx {a b:ByteArray} (h:a.data.toList=b.data.toList):a=b:=by
 obtain⟨x⟩:=a;obtain⟨y⟩:=b;have:x=y:=by simpa using h
 rw [this]
theorem Jck (l:List UInt8):(⟨l.toArray⟩:ByteArray).data.toList=l:=by simp
end Go.Proofs.YtcoimjbhoiipoaaGreatDoor.cal

namespace Go.Proofs.YtcoimjbhoiipoaaGreatDoor.cal
open Go.RowKit Go.ChangeShapes words

theorem Jgz {H:Type} {enc:TypeId×Value→H} {P:Program} {w:World} {base:Nat} {sp:Nat→Bool} {held:Bool} {fuel:Nat} {t e:TypeId} {n:Nat} {cs:List Value} {zs:List (List UInt8)} {p:List MemPlace}
  (ht:P.underlying t=some (.array n e)) (he:P.underlying e=some .string) (hce:P.cellsOf e=1) (hct:P.cellsOf t=n)
  (h:DataW.trod enc P w base sp held fuel t cs=some ((.agg (zs.map fun z=> .lit (.string z))),p)):∀(i:Nat) z,zs[i]?=some z→cs[i]?=some (.string ⟨z.toArray⟩):=by
 cases fuel with
 |zero=>simp [DataW.trod] at h
 |succ fuel=>
  simp only [DataW.trod,ht,hce,hct,Nat.mul_one] at h;split at h
  ·rename_i hl
   obtain⟨xs,hm,hx⟩:=Option.map_eq_some_iff.1 h;have hxs:xs.map (·.1)=zs.map fun z=>(DataW.lit (.string z):DataW H):=by
    have:=congrArg Prod.fst hx;simpa using this
   have hxl:xs.length=n:=by simpa using Lib.mapM_length hm
   have hzl:zs.length=n:=by
    have:=congrArg List.length hxs;simp at this;omega
   intro i z hz;have hi:i<n:=by rw [←hzl];exact (List.getElem?_eq_some_iff.1 hz).1
   obtain⟨b,hb,hf⟩:=Lib.mapM_at hm i i (by simp [hi]);obtain⟨s,hc,hbe,_⟩:=DataW.trod_string he hf;have h1:cs[i]?=some (.string s):=by
    have:=congrArg (·[0]?) hc;simpa [List.getElem?_take,List.getElem?_drop] using this
   have h2:(xs.map (·.1))[i]?=some (DataW.lit (.string s.data.toList):DataW H):=by simp [hb,hbe]
   rw [hxs] at h2;simp only [List.getElem?_map,Option.map_eq_some_iff,DataW.lit.injEq,Lit.string.injEq] at h2;obtain⟨z',hz',rfl⟩:=h2;rw [hz] at hz';injection hz' with hz';rw [h1,hz']
  ·cases h
theorem gTab:Tryz.prog.globalNamed "internal/strconv.uint64pow10" =some 6:=by kernel_rfl
theorem gSyn:Tryz.prog.globalNamed "strconv.ErrSyntax" =some 4:=by kernel_rfl
theorem gRng:Tryz.prog.globalNamed "strconv.ErrRange" =some 5:=by kernel_rfl
theorem gWds:Tryz.prog.globalNamed "socage/call.words" =some 1:=by kernel_rfl
theorem tTab:(Tryz.prog.globals[6]?).map (·.type)=some 194:=by kernel_rfl
theorem tSyn:(Tryz.prog.globals[4]?).map (·.type)=some 129:=by kernel_rfl
theorem tRng:(Tryz.prog.globals[5]?).map (·.type)=some 129:=by kernel_rfl
theorem tWds:(Tryz.prog.globals[1]?).map (·.type)=some 153:=by kernel_rfl
theorem star: "*" ++ "errors.errorString" = "*errors.errorString" :=by decide
theorem rowErr (u:TypeId) (h:Tryz.prog.typeName? 3 u=some "*errors.errorString"):u=190:=
 typeName_ptr_named (nm:= "errors.errorString") (by rw [star];kernel_rfl) (by kernel_rfl) (by decide) u (by rw [star];exact h)
theorem cE:Tryz.prog.cellsOf 192=1:=by kernel_rfl
theorem cS:Tryz.prog.cellsOf 9=1:=by kernel_rfl
theorem cU:Tryz.prog.cellsOf 177=1:=by kernel_rfl
theorem cT:Tryz.prog.cellsOf 194=20:=by kernel_rfl
theorem cW:Tryz.prog.cellsOf 153=10:=by kernel_rfl
theorem Jr4:(Rows.laid_internal_strconv_uint64pow10:DataW Unit)=Lib.tabData .u64 Lib.pow10Tab:=by kernel_rfl
theorem Jso:(Rows.laid_socage_call_words:DataW Unit)= .agg (wds.map fun z=> .lit (.string z)):=by kernel_rfl
theorem Jsj {w:World} (hsh:w.ShapedOpen prog) (h:laidMetH prog [("math/bits.deBruijn32tab",Rows.laid_math_bits_deBruijn32tab),("math/bits.deBruijn64tab",Rows.laid_math_bits_deBruijn64tab),("internal/strconv.uint64pow10",Rows.laid_internal_strconv_uint64pow10),("unicode/utf8.acceptRanges",Rows.laid_unicode_utf8_acceptRanges),("strconv.ErrRange",Rows.laid_strconv_ErrRange),("strconv.ErrSyntax",Rows.laid_strconv_ErrSyntax),("socage/call.words",Rows.laid_socage_call_words),("unicode/utf8.first",Rows.laid_unicode_utf8_first)] w):∃m,Env m w:=by
 rw [MakeChecks.laidMetH_plain _ _ _ (by kernel_rfl)] at h;obtain⟨m,hm⟩:=Go.Proofs.cell_of_shapedOpen_int (zero:=#[.int .i64 0]) (t:=3) hsh (of_decide_eq_true (by kernel_rfl)) (by kernel_rfl) rfl (by kernel_rfl) (by kernel_rfl) underlying3 (g:=0);have h2:=h.tail.tail;have h3:=h2.tail.tail;have h4:=h3.tail;have h5:=h4.tail;refine⟨m,?_,?_,?_,hm,?_⟩
 ·rw [Jr4] at h2
  exact Lib.tabIs_of_head gTab tTab underlying194 underlying177 cU cT h2
 ·obtain⟨a,s,hv,_⟩:=laid_sentinel h4 gSyn tSyn underlying129 rowErr underlying190 underlying192 rfl rfl underlying9 cE cS
  exact⟨_,_,hv⟩
 ·obtain⟨a,s,hv,_⟩:=laid_sentinel h3 gRng tRng underlying129 rowErr underlying190 underlying192 rfl rfl underlying9 cE cS
  exact⟨_,_,hv⟩
 ·rw [Jso] at h5
  obtain⟨ps,⟨g',t',cs,fuel,p,q,hg',ht',hvar,hd,_,_⟩,_⟩:=h5;obtain rfl:=Option.some.inj (gWds.symm.trans hg');obtain rfl:=Option.some.inj (tWds.symm.trans ht');intro i x hx;have:=World.var?_cell gWds hvar i;rw [this];have hc:=Jgz underlying153 underlying9 cS cW hd i x hx;simpa using hc
end Go.Proofs.YtcoimjbhoiipoaaGreatDoor.cal
