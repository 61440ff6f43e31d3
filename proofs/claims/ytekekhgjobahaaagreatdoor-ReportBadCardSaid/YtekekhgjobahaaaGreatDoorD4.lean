import Derived.Test.YtekekhgjobahaaaGreatDoorD0
import Derived.RangeFuncNested
import Derived.RangeFuncBound
import Derived.Shelf.RegionOpen
import Derived.OwnWalkIn
import Derived.LoopNIn
import Derived.LoopIn
set_option maxHeartbeats 6400000
set_option maxRecDepth 100000
open Go.Lib (hid)
open Go.Proofs.Tryz
namespace Go.Proofs.YtekekhgjobahaaaGreatDoor.scr
open Go.Lib cal

def spl (c:UInt8):List UInt8→List (List UInt8)
 |[]=>[[]]
 |b::l=>if b=c then []::spl c l else match spl c l with
  |[]=>[[b]]
  |p::r=>(b::p)::r
theorem Jf1 (c:UInt8):∀l,spl c l≠[]
 |[]=>by simp [spl]
 |b::l=>by
  unfold spl;split
  ·simp
  ·split<;>simp
theorem Jlz (c:UInt8) (l:List UInt8):spl c (c::l)=[]::spl c l:=by rw [spl,if_pos rfl]
theorem Jna {c b:UInt8} (h:b≠c) {l p:List UInt8} {r:List (List UInt8)} (hl:spl c l=p::r):spl c (b::l)=(b::p)::r:=by rw [spl,if_neg h,hl]
theorem Jqa {c:UInt8}:∀{l:List UInt8},c ∉ l→spl c l=[l]
 |[],_=>rfl
 |b::l,h=>Jna (by rintro rfl;exact h (List.mem_cons_self ..)) (Jqa fun e=>h (List.mem_cons_of_mem _ e))
theorem Jh7 {c:UInt8}:∀{a:List UInt8} (b:List UInt8),c ∉ a→spl c (a++c::b)=a::spl c b
 |[],b,_=>Jlz c b
 |x::a,b,h=>Jna (by rintro rfl;exact h (List.mem_cons_self ..)) (Jh7 b fun e=>h (List.mem_cons_of_mem _ e))
theorem Jlr (c:UInt8):∀l:List UInt8,(spl c l).length≤l.length+1
 |[]=>by simp [spl]
 |b::l=>by
  have ih:=Jlr c l;by_cases hb:b=c
  ·subst hb
   rw [Jlz,List.length_cons,List.length_cons];omega
  ·obtain⟨q,r,hq⟩:=List.exists_cons_of_ne_nil (Jf1 c l)
   rw [hq] at ih;rw [Jna hb hq];simp at ih ⊢;omega
def joinC (c:UInt8):List (List UInt8)→List UInt8
 |[]=>[]
 |[a]=>a
 |a::b::r=>a++c::joinC c (b::r)
theorem Jbz (c:UInt8) (a:List UInt8) {r:List (List UInt8)} (h:r≠[]):joinC c (a::r)=a++c::joinC c r:=by
 rcases r with _ |⟨b,r⟩
 ·exact absurd rfl h
 ·rfl
theorem Jsk:∀l,joinM l=joinC 32 l
 |[]=>rfl
 |[_]=>rfl
 |a::b::r=>by show a++32::joinM (b::r)=a++32::joinC 32 (b::r);rw [Jsk (b::r)]
theorem Joe (c b:UInt8) (p:List UInt8) (r:List (List UInt8)):joinC c ((b::p)::r)=b::joinC c (p::r):=by
 rcases r with _ |⟨q,r⟩<;>rfl
theorem Jfs (c:UInt8):∀l,joinC c (spl c l)=l
 |[]=>rfl
 |b::l=>by
  by_cases hb:b=c
  ·subst hb
   rw [Jlz,Jbz _ _ (Jf1 _ _),Jfs];rfl
  ·obtain⟨q,r,hq⟩:=List.exists_cons_of_ne_nil (Jf1 c l)
   rw [Jna hb hq,Joe,←hq,Jfs]
theorem Jic {c:UInt8}:∀{ps:List (List UInt8)},ps≠[]→(∀p∈ps,c ∉ p)→spl c (joinC c ps)=ps
 |[],h,_=>absurd rfl h
 |[a],_,h=>Jqa (h a (List.mem_cons_self ..))
 |a::b::r,_,h=>by
  rw [Jbz c a (by simp),Jh7 _ (h a (List.mem_cons_self ..)),Jic (by simp) fun p hp=>h p (List.mem_cons_of_mem _ hp)]
def cutC (c:UInt8) (l:List UInt8):List UInt8×List UInt8×Bool:=cut l [c]
theorem Jp5 {c:UInt8} {l:List UInt8} {i:Nat} (h:occAt l [c] i=true):∃t,l.drop i=c::t:=by
 unfold occAt at h;rcases hd:l.drop i with _ |⟨x,t⟩
 ·rw [hd] at h;cases h
 ·rw [hd] at h
  have:(c==x)=true:=by simpa [List.isPrefixOf] using h
  exact⟨t,by rw [←eq_of_beq this]⟩
theorem Jqw {c:UInt8} {l:List UInt8} {i:Nat} (h:occAt l [c] i=false) (hi:l[i]?=some c):False:=by
 obtain⟨hl,hc⟩:=List.getElem?_eq_some_iff.1 hi;have:l.drop i=c::l.drop (i+1):=by rw [List.drop_eq_getElem_cons hl,hc]
 unfold occAt at h;rw [this] at h;simp [List.isPrefixOf] at h
theorem Jdw {c:UInt8} {l a b:List UInt8} (h:cutC c l=(a,b,true)):l=a++c::b∧c ∉ a:=by
 unfold cutC cut at h;rcases index_spec l [c] with⟨h1,_⟩ |⟨i,h1,h2,h3,h4⟩
 ·rw [h1,if_neg (by decide)] at h
  cases h
 ·rw [h1,if_pos (by omega)] at h
  obtain⟨t,ht⟩:=Jp5 h3;simp only [Prod.mk.injEq,Int.toNat_natCast,List.length_singleton,and_true] at h;obtain⟨rfl,rfl⟩:=h;have e:l.drop (i+1)=t:=by rw [←List.drop_drop,ht];rfl
  refine⟨by rw [e,←ht,List.take_append_drop],fun hm=>?_⟩;obtain⟨j,hj⟩:=List.mem_iff_getElem?.1 hm;rw [List.getElem?_take] at hj;split at hj
  ·rename_i hlt
   exact Jqw (h4 j hlt) hj
  ·cases hj
theorem Jis {c:UInt8} {l a b:List UInt8} (h:cutC c l=(a,b,false)):a=l∧b=[]∧c ∉ l:=by
 unfold cutC cut at h;split at h
 ·cases h
 ·rename_i hn
  injection h with h1 h2;injection h2 with h2 _;refine⟨h1.symm,h2.symm,fun hm=>?_⟩;obtain⟨j,hj⟩:=List.mem_iff_getElem?.1 hm;rcases index_spec l [c] with⟨_,h5⟩ |⟨i,h5,_⟩
  ·exact Jqw (h5 j (by have:=(List.getElem?_eq_some_iff.1 hj).1;omega)) hj
  ·omega
theorem Jel {c:UInt8} {l a b:List UInt8} (h:cutC c l=(a,b,true)):spl c l=a::spl c b:=by
 obtain⟨h1,h2⟩:=Jdw h;rw [h1,Jh7 b h2]
theorem Jnf {c:UInt8} {l a b:List UInt8} (h:cutC c l=(a,b,false)):spl c l=[l]:=Jqa (Jis h).2.2
theorem Jiz {c:UInt8} (a b:List UInt8) (h:c ∉ a):cutC c (a++c::b)=(a,b,true):=by
 rcases hc:cutC c (a++c::b) with⟨x,y,f⟩
 cases f with
 |false=>
  have:=(Jis hc).2.2;simp at this
 |true=>
  have h1:=Jel hc;have h2:=(Jdw hc).1;rw [Jh7 b h] at h1;injection h1 with h1 _;subst h1;have:=List.append_cancel_left h2;injection this with _ h3;rw [h3]
theorem Jf9 {c:UInt8} {l:List UInt8} (h:c ∉ l):cutC c l=(l,[],false):=by
 rcases hc:cutC c l with⟨x,y,f⟩
 cases f with
 |false=>
  obtain⟨h1,h2,_⟩:=Jis hc;rw [h1,h2]
 |true=>
  have h2:=(Jdw hc).1;rw [h2] at h;simp at h
def numsL:List (List UInt8)→Option (List Int)
 |[]=>some []
 |w::r=>match numP w with
  |some n=>(numsL r).map (n::·)
  |none=>none
theorem Jhq:∀(l:List (List UInt8)) (w:List UInt8) (ns:List Int),numsL l=some ns→numsL (l++[w])=(numP w).map fun n=>ns++[n]
 |[],w,ns,h=>by
  simp only [numsL,Option.some.injEq] at h;subst h;simp only [List.nil_append,numsL];cases numP w<;>rfl
 |x::l,w,ns,h=>by
  simp only [numsL,List.cons_append] at h ⊢;cases hx:numP x with
  |none=>rw [hx] at h;cases h
  |some n=>
   rw [hx] at h;simp only at h ⊢;obtain⟨ms,hm,rfl⟩:=Option.map_eq_some_iff.1 h;rw [Jhq l w ms hm];cases numP w<;>rfl
theorem Jja:∀(l:List (List UInt8)) (w:List UInt8),w∈l→numP w=none→numsL l=none
 |[],w,h,_=>by cases h
 |x::l,w,h,hw=>by
  simp only [numsL];rcases List.mem_cons.1 h with rfl |h
  ·rw [hw]
  ·rw [Jja l w h hw]
   cases numP x<;>rfl
theorem Jey:∀{l:List (List UInt8)} {ns:List Int},numsL l=some ns→ns.map itoa=l∧∀n∈ns,-9223372036854775808≤n∧n≤9223372036854775807
 |[],ns,h=>by
  simp only [numsL,Option.some.injEq] at h;subst h;exact⟨rfl,fun _ h=>by cases h⟩
 |x::l,ns,h=>by
  simp only [numsL] at h;cases hx:numP x with
  |none=>rw [hx] at h;cases h
  |some n=>
   rw [hx] at h;obtain⟨ms,hm,rfl⟩:=Option.map_eq_some_iff.1 h;obtain⟨h1,h2⟩:=Jey hm;obtain⟨e1,e2⟩:=Jcw hx;refine⟨by rw [List.map_cons,h1,e1],fun k hk=>?_⟩;rcases List.mem_cons.1 hk with rfl |hk
   ·exact e2
   ·exact h2 k hk
theorem Jhm:∀{ns:List Int},(∀n∈ns,-9223372036854775808≤n∧n≤9223372036854775807)→numsL (ns.map itoa)=some ns
 |[],_=>rfl
 |n::ns,h=>by
  have h1:=h n (List.mem_cons_self ..);rw [List.map_cons,numsL,Jb5 n h1.1 h1.2,Jhm fun k hk=>h k (List.mem_cons_of_mem _ hk)];rfl
def numsM (l:List UInt8):Option (List Int):=numsL (spl 32 l)
theorem Jhn {ns:List Int} (h0:ns≠[]) (h:∀n∈ns,-9223372036854775808≤n∧n≤9223372036854775807):numsM (joinC 32 (ns.map itoa))=some ns:=by
 unfold numsM;rw [Jic (by simpa using h0) fun p hp=>by obtain⟨n,_,rfl⟩:=List.mem_map.1 hp;exact Jec n,Jhm h]
theorem Jew {l:List UInt8} {ns:List Int} (h:numsM l=some ns):joinC 32 (ns.map itoa)=l∧ns≠[]∧∀n∈ns,-9223372036854775808≤n∧n≤9223372036854775807:=by
 unfold numsM at h;obtain⟨h1,h2⟩:=Jey h;refine⟨by rw [h1,Jfs],fun e=>?_,h2⟩;rw [e] at h1;exact Jf1 32 l h1.symm
structure Sc where
 sh:Int
 rm:Int
 cu:Int
 im:List (List UInt8)
 cl:List (List cal.Op)
 pk:List Int
 deriving DecidableEq
def sc0:Sc:=⟨0,0,0,[],[],[]⟩
def roomW:List UInt8:=[114,111,111,109]
def imageW:List UInt8:=[105,109,97,103,101]
def clientW:List UInt8:=[99,108,105,101,110,116]
def pickW:List UInt8:=[112,105,99,107]
def roomL (s:Sc):List UInt8:=roomW++32::joinC 32 ([s.sh,s.rm,s.cu].map itoa)
def imageL (x:List UInt8):List UInt8:=imageW++32::hexL x
def pickL (ns:List Int):List UInt8:=pickW++32::joinC 32 (ns.map itoa)
def clientL (ops:List cal.Op):List (List UInt8):=clientW::ops.map textM
def linesM (s:Sc):List (List UInt8):=roomL s::(s.im.map imageL++s.cl.flatMap clientL++(if s.pk=[] then [] else [pickL s.pk]))
def textT (ls:List (List UInt8)):List UInt8:=ls.flatMap (·++[10])
def printM (s:Sc):List UInt8:=textT (linesM s)
structure Rd where
 s:Sc
 k:Nat
def rd0:Rd:=⟨sc0,0⟩
def snocOp (l:List (List cal.Op)) (o:cal.Op):List (List cal.Op):=l.dropLast++[l.getLastD []++[o]]
def takeM (r:Rd) (line:List UInt8):Option Rd:=
 if r.k=0 then (if (cutL line).1=roomW then (match numsM (cutL line).2.1 with
   |some [a,b,c]=>some ⟨{r.s with sh:=a,rm:=b,cu:=c},1⟩
   |_=>none) else none)
 else if r.k=3 then none
 else if (cutL line).1=imageW then (if r.k=1 then (unH (cutL line).2.1).map fun x=>⟨{r.s with im:=r.s.im++[x]},1⟩ else none)
 else if line=clientW then some ⟨{r.s with cl:=r.s.cl++[[]]},2⟩
 else if (cutL line).1=pickW then (numsM (cutL line).2.1).map fun ns=>⟨{r.s with pk:=ns},3⟩
 else if r.k=2 then (parseM line).map fun o=>⟨{r.s with cl:=snocOp r.s.cl o},2⟩
 else none
theorem Jpv {r:Rd} {line:List UInt8} {r':Rd} (hk:r.k=0) (h:takeM r line=some r'):∃a b c,(cutL line).1=roomW∧numsM (cutL line).2.1=some [a,b,c]∧r'=⟨{r.s with sh:=a,rm:=b,cu:=c},1⟩:=by
 unfold takeM at h;rw [if_pos hk] at h;split at h
 ·rename_i hr
  split at h
  ·rename_i a b c hn
   injection h with h;exact⟨a,b,c,hr,hn,h.symm⟩
  ·cases h
 ·cases h
theorem Jv6 {r:Rd} {line:List UInt8} {r':Rd} (hk:r.k≠0) (h:takeM r line=some r'):r.k≠3∧
  ((∃x,(cutL line).1=imageW∧r.k=1∧unH (cutL line).2.1=some x∧r'=⟨{r.s with im:=r.s.im++[x]},1⟩)∨
   (line=clientW∧r'=⟨{r.s with cl:=r.s.cl++[[]]},2⟩)∨
   (∃ns,(cutL line).1=pickW∧numsM (cutL line).2.1=some ns∧r'=⟨{r.s with pk:=ns},3⟩)∨
   (∃o,r.k=2∧parseM line=some o∧r'=⟨{r.s with cl:=snocOp r.s.cl o},2⟩)):=by
 unfold takeM at h;rw [if_neg hk] at h;split at h
 ·cases h
 rename_i h3;refine⟨h3,?_⟩;split at h
 ·rename_i hi
  split at h
  ·rename_i h1
   obtain⟨x,hx,rfl⟩:=Option.map_eq_some_iff.1 h;exact .inl ⟨x,hi,h1,hx,rfl⟩
  ·cases h
 split at h
 ·rename_i hc
  injection h with h;exact .inr (.inl ⟨hc,h.symm⟩)
 split at h
 ·rename_i hp
  obtain⟨x,hx,rfl⟩:=Option.map_eq_some_iff.1 h;exact .inr (.inr (.inl ⟨x,hp,hx,rfl⟩))
 split at h
 ·rename_i h2
  obtain⟨x,hx,rfl⟩:=Option.map_eq_some_iff.1 h;exact .inr (.inr (.inr ⟨x,h2,hx,rfl⟩))
 ·cases h
def takesM (r:Rd):List (List UInt8)→Option Rd
 |[]=>some r
 |p::ps=>match takeM r p with
  |some r'=>takesM r' ps
  |none=>none
theorem Jd2:∀{ps qs:List (List UInt8)} {r r1:Rd},takesM r ps=some r1→takesM r (ps++qs)=takesM r1 qs
 |[],qs,r,r1,h=>by
  injection h with h;subst h;rfl
 |p::ps,qs,r,r1,h=>by
  simp only [takesM,List.cons_append] at h ⊢;cases ht:takeM r p with
  |none=>rw [ht] at h;cases h
  |some r2=>
   rw [ht] at h;exact Jd2 h
structure Fits (s:Sc):Prop where
 sh: -9223372036854775808≤s.sh∧s.sh≤9223372036854775807
 rm: -9223372036854775808≤s.rm∧s.rm≤9223372036854775807
 cu: -9223372036854775808≤s.cu∧s.cu≤9223372036854775807
 pk:∀n∈s.pk,-9223372036854775808≤n∧n≤9223372036854775807
 op:∀ops∈s.cl,∀o∈ops,o.fit
 ok:∀ops∈s.cl,∀o∈ops,rightM o=true
theorem Jj6 (l:List UInt8):cutL l=cutC 32 l:=rfl
theorem Jo0 {o:cal.Op} (hr:rightM o=true):∃s,textM o=wordL o.K++32::s∧1≤o.K∧o.K≤9:=by
 have hr':=hr;unfold rightM at hr';simp only [Bool.and_eq_true,decide_eq_true_eq] at hr';obtain⟨⟨hw,_⟩,ht⟩:=hr';have hk:1≤o.K∧o.K≤9:=by
  rcases Je0 o.K with h |⟨h,_⟩
  ·omega
  ·exact absurd h hw
 unfold textM;rw [if_neg hw];obtain⟨w,ws,hws⟩:∃w ws,restM o=w::ws:=by
  unfold restM;split
  ·exact⟨_,_,rfl⟩
  split
  ·exact⟨_,_,rfl⟩
  split
  ·exact⟨_,_,rfl⟩
  split<;>exact⟨_,_,rfl⟩
 rw [hws];exact⟨joinM (w::ws),rfl,hk.1,hk.2⟩
theorem Jn7:∀k:Int,1≤k→k≤9→wordL k≠imageW∧wordL k≠pickW∧wordL k≠roomW:=fun k h1 h2=>by
 have:k=1∨k=2∨k=3∨k=4∨k=5∨k=6∨k=7∨k=8∨k=9:=by omega
 rcases this with rfl |rfl |rfl |rfl |rfl |rfl |rfl |rfl |rfl<;>decide
theorem Jjg (s:Sc) (hf:Fits s):takeM rd0 (roomL s)=some ⟨{sc0 with sh:=s.sh,rm:=s.rm,cu:=s.cu},1⟩:=by
 unfold takeM roomL;rw [if_pos (show rd0.k=0 from rfl),Jj6,Jiz _ _ (by decide)];simp only [if_true];rw [Jhn (by simp) (by
   intro n hn;simp only [List.mem_cons,List.not_mem_nil,or_false] at hn;rcases hn with rfl |rfl |rfl
   ·exact hf.sh
   ·exact hf.rm
   ·exact hf.cu)]
 rfl
theorem Jn8 (r:Rd) (hk:r.k=1) (x:List UInt8):takeM r (imageL x)=some ⟨{r.s with im:=r.s.im++[x]},1⟩:=by
 unfold takeM imageL;rw [if_neg (by omega),if_neg (by omega),Jj6,Jiz _ _ (by decide)];simp only [if_true];rw [if_pos hk,Jni];rfl
theorem Jge (r:Rd) (hk:r.k=1∨r.k=2):takeM r clientW=some ⟨{r.s with cl:=r.s.cl++[[]]},2⟩:=by
 unfold takeM;rw [if_neg (by omega),if_neg (by omega),Jj6,Jf9 (by decide),if_neg (by decide),if_pos rfl]
theorem Jxi (r:Rd) (hk:r.k=2) (o:cal.Op) (hr:rightM o=true) (hf:o.fit):takeM r (textM o)=some ⟨{r.s with cl:=snocOp r.s.cl o},2⟩:=by
 obtain⟨s,hs,h1,h9⟩:=Jo0 hr;obtain⟨w1,w2,w3⟩:=Jn7 o.K h1 h9;have hn:=(Jks o.K ⟨h1,h9⟩).2.1;have hp:=Jn0 o hr hf;unfold takeM;rw [if_neg (by omega),if_neg (by omega)];have hc:(cutL (textM o)).1=wordL o.K:=by rw [hs,Jj6,Jiz _ _ hn]
 rw [hc,if_neg w1,if_neg,if_neg w2,if_pos hk,hp]
 ·rfl
 ·intro e
  have h32:(32:UInt8)∈clientW:=by rw [←e,hs];simp
  revert h32;decide
theorem Jn6 (r:Rd) (hk:r.k=1∨r.k=2) (ns:List Int) (h0:ns≠[]) (hf:∀n∈ns,-9223372036854775808≤n∧n≤9223372036854775807):takeM r (pickL ns)=some ⟨{r.s with pk:=ns},3⟩:=by
 unfold takeM pickL;rw [if_neg (by omega),if_neg (by omega),Jj6,Jiz _ _ (by decide)];simp only [];rw [if_neg (by decide),if_neg,if_pos trivial,Jhn h0 hf]
 ·rfl
 ·intro e
  have h32:(32:UInt8)∈clientW:=by rw [←e];simp
  revert h32;decide
theorem Jfb:∀(xs:List (List UInt8)) (r:Rd),r.k=1→takesM r (xs.map imageL)=some ⟨{r.s with im:=r.s.im++xs},1⟩
 |[],r,hk=>by
  obtain⟨s,k⟩:=r;subst hk;simp [takesM]
 |x::xs,r,hk=>by
  simp only [List.map_cons,takesM,Jn8 r hk x];rw [Jfb xs _ rfl];simp
theorem Jjf:∀(ops:List cal.Op) (r:Rd),r.k=2→(∀o∈ops,rightM o=true∧o.fit)→∀(a:List (List cal.Op)) (x:List cal.Op),r.s.cl=a++[x]→takesM r (ops.map textM)=some ⟨{r.s with cl:=a++[x++ops]},2⟩
 |[],r,hk,_,a,x,hc=>by
  obtain⟨s,k⟩:=r;subst hk;simp [takesM,←hc]
 |o::ops,r,hk,h,a,x,hc=>by
  have h1:=h o (List.mem_cons_self ..);simp only [List.map_cons,takesM,Jxi r hk o h1.1 h1.2];rw [Jjf ops _ rfl (fun q hq=>h q (List.mem_cons_of_mem _ hq)) a (x++[o]) (by
    show snocOp r.s.cl o=_;unfold snocOp;rw [hc];simp)]
  simp
theorem Jej:∀(cl:List (List cal.Op)) (r:Rd),(r.k=1∨r.k=2)→(∀ops∈cl,∀o∈ops,rightM o=true∧o.fit)→∃k,(k=1∨k=2)∧takesM r (cl.flatMap clientL)=some ⟨{r.s with cl:=r.s.cl++cl},k⟩
 |[],r,hk,_=>⟨r.k,hk,by
   obtain⟨s,k⟩:=r;simp [takesM]⟩
 |ops::cl,r,hk,h=>by
  have h1:takesM r (clientL ops)=some ⟨{r.s with cl:=r.s.cl++[ops]},2⟩:=by
   unfold clientL;simp only [takesM,Jge r hk];rw [Jjf ops _ rfl (h ops (List.mem_cons_self ..)) r.s.cl [] rfl];simp
  obtain⟨k,hk2,h2⟩:=Jej cl ⟨{r.s with cl:=r.s.cl++[ops]},2⟩ (.inr rfl) fun q hq=>h q (List.mem_cons_of_mem _ hq);refine⟨k,hk2,?_⟩;rw [List.flatMap_cons,Jd2 h1,h2];simp
theorem Jrw (s:Sc) (hf:Fits s):∃k,takesM rd0 (linesM s)=some ⟨s,k⟩:=by
 have h1:=Jfb s.im ⟨{sc0 with sh:=s.sh,rm:=s.rm,cu:=s.cu},1⟩ rfl;obtain⟨k,hk,h2⟩:=Jej s.cl ⟨{sc0 with sh:=s.sh,rm:=s.rm,cu:=s.cu,im:=s.im},1⟩ (.inl rfl) fun ops ho o hm=>⟨hf.ok ops ho o hm,hf.op ops ho o hm⟩
 have h12:=(Jd2 (qs:=s.cl.flatMap clientL) h1).trans h2;unfold linesM;simp only [takesM,Jjg s hf];obtain⟨sh,rm,cu,im,cl,pk⟩:=s;by_cases hp:pk=[]
 ·subst hp
  refine⟨k,?_⟩;simp only [if_true,List.append_nil];exact h12
 ·refine⟨3,?_⟩
  simp only [hp,if_false];rw [Jd2 h12];simp only [takesM];rw [Jn6 _ hk pk hp hf.pk];rfl
def prsM:Rd→Nat→List (List UInt8)→Rd ⊕ Nat
 |_,n,[]=> .inr n
 |_,n,[_]=> .inr n
 |r,n,p::q::ps=>match takeM r p with
  |none=> .inr n
  |some r'=>if q=[]∧ps=[] then .inl r' else prsM r' (n+1) (q::ps)
theorem Jrq:∀{ls:List (List UInt8)} {r r':Rd} {n:Nat},ls≠[]→takesM r ls=some r'→prsM r n (ls++[[]])= .inl r'
 |[],_,_,_,h,_=>absurd rfl h
 |[p],r,r',n,_,h=>by
  simp only [takesM] at h;simp only [List.cons_append,List.nil_append,prsM];cases ht:takeM r p with
  |none=>rw [ht] at h;cases h
  |some r1=>
   rw [ht] at h;injection h with h;subst h;simp
 |p::q::ls,r,r',n,_,h=>by
  rw [takesM] at h;show prsM r n (p::q::(ls++[[]]))=_;rw [prsM];cases ht:takeM r p with
  |none=>rw [ht] at h;cases h
  |some r1=>
   rw [ht] at h;simp only;rw [if_neg (by simp)];exact Jrq (ls:=q::ls) (by simp) h
theorem Jl7:∀{ls:List (List UInt8)} {r r':Rd} {n:Nat} {p:List UInt8},takesM r ls=some r'→takeM r' p=none→prsM r n (ls++[p,[]])= .inr (n+ls.length)
 |[],r,r',n,p,h,hp=>by
  injection h with h;subst h;simp only [List.nil_append,prsM,hp,List.length_nil,Nat.add_zero]
 |x::ls,r,r',n,p,h,hp=>by
  rw [takesM] at h;obtain⟨q,qs,hq⟩:∃q qs,ls++[p,[]]=q::qs:=List.exists_cons_of_ne_nil (by simp);have hqs:¬(q=[]∧qs=[]):=fun e=>by
   rw [e.2] at hq;have:=congrArg List.length hq;simp at this
  rw [List.cons_append,hq,prsM];cases ht:takeM r x with
  |none=>rw [ht] at h;cases h
  |some r1=>
   rw [ht] at h;simp only;rw [if_neg hqs,←hq,Jl7 (n:=n+1) h hp,List.length_cons];congr 1;omega
theorem Jhl:∀ls:List (List UInt8),joinC 10 (ls++[[]])=textT ls
 |[]=>rfl
 |p::ls=>by
  rw [List.cons_append,Jbz _ _ (by simp),Jhl ls];simp [textT]
theorem Jsy {ls:List (List UInt8)} (h:∀p∈ls,10 ∉ p):spl 10 (textT ls)=ls++[[]]:=by
 rw [←Jhl,Jic (by simp) fun p hp=>by
   rcases List.mem_append.1 hp with hp |hp
   ·exact h p hp
   ·obtain rfl:p=[]:=by simpa using hp
    simp]
def parseS (l:List UInt8):Sc ⊕ Nat:=match prsM rd0 1 (spl 10 l) with
 | .inl r=> .inl r.s
 | .inr n=> .inr n
theorem Jjb:∀l:List UInt8,10 ∉ hexP l
 |[]=>by simp [hexP]
 |b::r=>by
  have hd:∀n:Fin 16,hexD n.val≠10:=by decide+kernel
  have hb:=b.toNat_lt;intro h;rcases List.mem_cons.1 h with h |h
  ·exact hd ⟨b.toNat / 16,by omega⟩ h.symm
  ·rcases List.mem_cons.1 h with h |h
   ·exact hd ⟨b.toNat % 16,by omega⟩ h.symm
   ·exact Jjb r h
theorem Jj1 (l:List UInt8):10 ∉ hexL l:=by
 unfold hexL;split
 ·decide
 ·exact Jjb l
theorem Jcu (n:Int):10 ∉ itoa n:=by
 unfold itoa;split
 ·intro h
  rcases List.mem_cons.1 h with h |h
  ·revert h;decide
  ·have:=Jdb (n.natAbs+1) n.natAbs (Nat.lt_succ_self _) _ h
   revert this;decide
 ·intro h
  have:=Jdb (n.toNat+1) n.toNat (Nat.lt_succ_self _) _ h;revert this;decide
theorem Jid {c d:UInt8} (hd:d≠c):∀{ps:List (List UInt8)},(∀p∈ps,d ∉ p)→d ∉ joinC c ps
 |[],_=>by simp [joinC]
 |[a],h=>h a (List.mem_cons_self ..)
 |a::b::r,h=>by
  rw [Jbz c a (by simp)];intro hm;rcases List.mem_append.1 hm with hm |hm
  ·exact h a (List.mem_cons_self ..) hm
  ·rcases List.mem_cons.1 hm with hm |hm
   ·exact hd hm
   ·exact Jid hd (fun p hp=>h p (List.mem_cons_of_mem _ hp)) hm
theorem Jqe {o:cal.Op} (hr:rightM o=true):10 ∉ textM o:=by
 have hr':=hr;unfold rightM at hr';simp only [Bool.and_eq_true,decide_eq_true_eq,Bool.not_eq_true',decide_eq_false_iff_not] at hr';obtain⟨⟨hw,hp⟩,_⟩:=hr';have hwd:10 ∉ wordL o.K:=by
  rcases Je0 o.K with h |⟨h,_⟩
  ·rcases h with h |h |h |h |h |h |h |h |h<;>rw [h]<;>decide
  ·rw [h];simp
 unfold textM;rw [if_neg hw,Jsk];refine Jid (by decide) fun p hm=>?_;rcases List.mem_cons.1 hm with rfl |hm
 ·exact hwd
 unfold restM at hm;split at hm
 ·simp only [List.mem_cons,List.not_mem_nil,or_false] at hm
  rcases hm with rfl |rfl |rfl
  ·exact Jcu _
  ·exact Jcu _
  ·exact hp
 split at hm
 ·simp only [List.mem_cons,List.not_mem_nil,or_false] at hm
  rcases hm with rfl |rfl<;>exact Jcu _
 split at hm
 ·simp only [List.mem_cons,List.not_mem_nil,or_false] at hm
  subst hm;exact Jcu _
 split at hm
 ·simp only [List.mem_cons,List.not_mem_nil,or_false] at hm
  subst hm;exact Jj1 _
 ·simp only [List.mem_cons,List.not_mem_nil,or_false] at hm
  subst hm;exact hp
theorem Jou {s:Sc} (ok:∀ops∈s.cl,∀o∈ops,rightM o=true):∀p∈linesM s,10 ∉ p:=fun p hp=>by
 have hnum:∀ns:List Int,10 ∉ joinC 32 (ns.map itoa):=fun ns=>Jid (by decide) fun p hp=>by
  obtain⟨n,_,rfl⟩:=List.mem_map.1 hp;exact Jcu n
 have hap:∀(w x:List UInt8),10 ∉ w→10 ∉ x→10 ∉ w++32::x:=fun w x h1 h2 hm=>by
  rcases List.mem_append.1 hm with hm |hm
  ·exact h1 hm
  ·rcases List.mem_cons.1 hm with hm |hm
   ·revert hm;decide
   ·exact h2 hm
 unfold linesM at hp;rcases List.mem_cons.1 hp with rfl |hp
 ·exact hap _ _ (by decide) (hnum _)
 rcases List.mem_append.1 hp with hp |hp
 ·rcases List.mem_append.1 hp with hp |hp
  ·obtain⟨x,_,rfl⟩:=List.mem_map.1 hp
   exact hap _ _ (by decide) (Jj1 x)
  ·obtain⟨ops,ho,hm⟩:=List.mem_flatMap.1 hp
   rcases List.mem_cons.1 hm with rfl |hm
   ·decide
   ·obtain⟨o,hq,rfl⟩:=List.mem_map.1 hm
    exact Jqe (ok ops ho o hq)
 ·split at hp
  ·cases hp
  ·obtain rfl:p=pickL s.pk:=by simpa using hp
   exact hap _ _ (by decide) (hnum _)
theorem Jdu {s:Sc} (hf:Fits s):parseS (printM s)= .inl s:=by
 obtain⟨k,hk⟩:=Jrw s hf;unfold parseS printM;rw [Jsy (Jou hf.ok),Jrq (by simp [linesM]) hk]
end Go.Proofs.YtekekhgjobahaaaGreatDoor.scr

namespace Go.Proofs.YtekekhgjobahaaaGreatDoor.scr
open Go.RowKit words cal
attribute [local go_sem] Oper.semAt_some

structure SqC (g1 g2 g3:Nat) (rest:ByteArray) (W:World):Prop where
 c1:W.heap[g1]?=some (.cells #[.string ⟨#[32]⟩] 9 (0,0))
 c2:W.heap[g2]?=some (.cells #[.string rest] 9 (0,0))
 c3:W.heap[g3]?=some (.cells #[.int .i64 0] 3 (0,0))
theorem Jh1 {s:ByteArray} (h:Lib.indexByte s.data.toList 32<0):spl 32 s.data.toList=[s.data.toList]:=by
 have hc:cutC 32 s.data.toList=(s.data.toList,[],false):=by
  unfold cutC Lib.cut;rw [Lib.index_one,if_neg (by omega)]
 exact Jnf hc
theorem index_hit {s:ByteArray} {i:Nat} (h:Lib.indexByte s.data.toList 32=i):spl 32 s.data.toList=(s.extract 0 i).data.toList::spl 32 (s.extract (i+1) s.size).data.toList∧i<s.size:=by
 have hc:cutC 32 s.data.toList=(s.data.toList.take i,s.data.toList.drop (i+1),true):=by
  unfold cutC Lib.cut;rw [Lib.index_one,if_pos (by omega),h];rfl
 have h1:=Jel hc;have h2:=(Jdw hc).1;refine⟨?_,?_⟩
 ·rw [h1,Lib.extract_from_zero,Lib.extract_to_end]
 ·have:=congrArg List.length h2
  rw [size_list] at this;simp at this;omega
noncomputable def leftM (g:Nat) (W:World):Nat:=match W.cell? ⟨g,0,none⟩ with
 |some (.string r)=>r.size
 |_=>0
theorem Jp6 {g1 g2 g3:Nat} {r:ByteArray} {W:World} (h:SqC g1 g2 g3 r W):leftM g2 W=r.size:=by unfold leftM;rw [Jaa h.c2 0];rfl
theorem Jv5 (n:Nat) (hn:1≤n) (l g1 g2 g3:Nat) (s:ByteArray) (J:List ByteArray→ByteArray→World→Prop) (Jx:World→Prop) (hs:s.size≤1000000)
  (hC:∀pre rest W,J pre rest W→SqC g1 g2 g3 rest W)
  (hS:∀pre rest rest' W,J pre rest W→J pre rest' (W.setCell ⟨g2,0,none⟩ (.string rest')))
  (hY:∀pre rest x W,J pre rest W→x.size≤1000000→x.data.toList∈spl 32 s.data.toList→pre.length<(spl 32 s.data.toList).length→YieldAt Fence.wide (n - 1) prog l #[.string x] W fun e W'=>
    (e= .returned (.bool true)∧J (pre++[x]) rest W')∨(e= .returned (.bool false)∧Jx W'))
  (W:World) (h0:J [] s W):
  CallsIn Fence.wide n prog 169 #[.func (.yield l) #[] #[],.pointer (some ⟨g1,0,none⟩),.pointer (some ⟨g2,0,none⟩),.pointer (some ⟨g3,0,none⟩)] W fun e W'=>(∃v,e= .returned v)∧
   ((∃ps rest,ps.map (fun x=>x.data.toList)=spl 32 s.data.toList∧J ps rest W')∨Jx W'):=by
 have c:=hC _ _ _ h0;have a1:=Jaa c.c1 0;refine callsIn_of_wp func169 rfl trivial ?_ rfl;simp only [ntmps169,List.size_toArray,List.length_cons,List.length_nil,Nat.reduceAdd,Nat.reduceSub,Array.replicate_succ,Array.replicate_zero,List.push_toArray,List.append_toArray,List.nil_append,List.cons_append]
 gi_wp2
 gi_loopw [7,8] (fun v7 v8 wr=>∃(pre:List ByteArray) (rest:ByteArray),pre.map (fun x=>x.data.toList)++spl 32 rest.data.toList=spl 32 s.data.toList∧rest.size≤1000000∧J pre rest wr) (fun _ _ wr=>leftM g2 wr)
 case atStart=>exact⟨[],s,rfl,hs,h0⟩
 case round=>
  obtain⟨pre,rest,hp,hz,hj⟩:=hrel;have c':=hC _ _ _ hj;have b1:=Jaa c'.c1 0;have b2:=Jaa c'.c2 0;have b3:=Jaa c'.c3 0;have f2:=Jab c'.c2 0;have hix:=callsIn_wide (n:=n - 1).2 (Tryz.strings_Index_one rest 32 wr);obtain⟨i,hi⟩:=words.nm (Lib.indexByte rest.data.toList 32);rw [←hi] at hix;by_cases hneg:i<0
  ·have hsp:=Jh1 (s:=rest) (by rw [←hi];exact hneg)
   rw [hsp] at hp;obtain⟨fn,tmps,assign,body,hy,hR⟩:=hY pre rest rest wr hj hz (by rw [←hp];simp) (by rw [←hp];simp);clear hi hsp
   gi_wp2_with (refine⟨trivial,?_⟩;gi_at_call 171;refine hix.mono ?_;rintro e w' ⟨rfl,rfl⟩)
   refine hR.mono ?_;rintro e W3 (⟨rfl,hJ3⟩ |⟨rfl,hJx3⟩)
   ·gi_wp2
    go_end0
    exact⟨⟨_,rfl⟩,.inl ⟨pre++[rest],rest,by rw [List.map_append];exact hp,hJ3⟩⟩
   ·gi_wp2
    go_end0
    exact⟨⟨_,rfl⟩,.inr hJx3⟩
  ·obtain⟨k,rfl⟩:∃k:Nat,i=k:=⟨i.toNat,by omega⟩
   obtain⟨hsp,hlt⟩:=index_hit (s:=rest) hi.symm;rw [hsp] at hp;have hx:(rest.extract 0 k).size≤1000000:=by rw [ByteArray.size_extract];omega
   obtain⟨fn,tmps,assign,body,hy,hR⟩:=hY pre rest (rest.extract 0 k) wr hj hx (by rw [←hp];simp) (by rw [←hp];simp);clear hi hsp;have k0:(k:Int)≤rest.size:=by omega
   have hkk:IntKind.i64.wrap ((k:Int)+0)=(k:Int):=by rw [Int.add_zero];exact IntWalk.i64_in _ ⟨by omega,by omega⟩
   gi_wp2_with (refine⟨trivial,?_⟩;gi_at_call 171;refine hix.mono ?_;rintro e w' ⟨rfl,rfl⟩)
   refine hR.mono ?_;rintro e W3 (⟨rfl,hJ3⟩ |⟨rfl,hJx3⟩)
   ·have c3:=hC _ _ _ hJ3
    have d1:=Jaa c3.c1 0;have d2:=Jaa c3.c2 0;have d3:=Jaa c3.c3 0;have e2:=Jab c3.c2 0
    gi_wp2
    go_roundw
    case rel=>exact⟨pre++[rest.extract 0 k],rest.extract (k+1) rest.size,by simpa using hp,by rw [ByteArray.size_extract];omega,hS _ _ _ _ hJ3⟩
    case measure=>
     rw [Jp6 c',Jp6 (hC _ _ _ (hS _ _ _ _ hJ3)),ByteArray.size_extract];omega
   ·gi_wp2
    refine bodyPost_ret (results_none rfl _ _ _) rfl ?_;exact⟨⟨_,rfl⟩,.inr hJx3⟩

def SplO (s:ByteArray) (w:World) (e:Ending) (w':World):Prop:=
 ∃g1 g2 g3,e= .returned (.func (.func 169) #[] #[.pointer (some ⟨g1,0,none⟩),.pointer (some ⟨g2,0,none⟩),.pointer (some ⟨g3,0,none⟩)])∧SqC g1 g2 g3 s w'∧w.heap.size≤g1∧w.heap.size≤g2∧w.heap.size≤g3∧g1≠g2∧Below w.heap.size w w'
theorem Jh3 (s:ByteArray) (w:World):Calls prog 138 #[.string s,.string ⟨#[32]⟩,.int .i64 0] w (SplO s w):=by
 have hmf:∀(fn:Fn) (first cap:Array Value) (w:World),(Instr.makeFunc fn first cap).run prog w= .ok (.func fn first cap) w:=fun _ _ _ _=>rfl;obtain⟨W1,hW1⟩:=words.nm (((w.alloc (.cells #[.string s] 9)).alloc (.cells #[.string ⟨#[32]⟩] 9)).alloc (.cells #[.int .i64 0] 3));have hsz:(w.alloc (.cells #[.string s] 9)).heap.size=w.heap.size+1:=by simp
 have hsz2:((w.alloc (.cells #[.string s] 9)).alloc (.cells #[.string ⟨#[32]⟩] 9)).heap.size=w.heap.size+1+1:=by simp
 have h1:W1.heap[w.heap.size]?=some (.cells #[.string s] 9 (0,0)):=by
  rw [hW1];exact (Below.heap_alloc _ _ _ (by rw [hsz2];omega)).trans ((Below.heap_alloc _ _ _ (by rw [hsz];omega)).trans (heap_alloc_new w _))
 have h2:W1.heap[w.heap.size+1]?=some (.cells #[.string ⟨#[32]⟩] 9 (0,0)):=by
  rw [hW1,←hsz];exact (Below.heap_alloc _ _ _ (by simp)).trans (heap_alloc_new _ _)
 have h3:W1.heap[w.heap.size+1+1]?=some (.cells #[.int .i64 0] 3 (0,0)):=by
  rw [hW1,←hsz2];exact heap_alloc_new _ _
 have hb:Below w.heap.size w W1:=by rw [hW1];exact (((Below.refl _ _).alloc (Nat.le_refl _) _).alloc (by rw [hsz];omega) _).alloc (by rw [hsz2];omega) _
 have HF:Hid (SplO s w (.returned (.func (.func 169) #[] #[.pointer (some ⟨w.heap.size+1,0,none⟩),.pointer (some ⟨w.heap.size,0,none⟩),.pointer (some ⟨w.heap.size+1+1,0,none⟩)])) W1):=hid ⟨_,_,_,rfl,⟨h2,h1,h3⟩,by omega,by omega,by omega,by omega,hb⟩;have HW1:=hid hW1;clear hW1 h1 h2 h3 hb hsz hsz2;go_enter func138,ntmps138
 go_wp2_with fail
 go_ret
 rw [HW1.out] at HF;exact HF.out
theorem Jjt (s:ByteArray) (w:World):Calls prog 107 #[.string s,.string ⟨#[32]⟩] w (SplO s w):=by
 have HC:=hid (Jh3 s w);go_enter func107,ntmps107
 go_wp2_with fail
 refine HC.out.mono ?_;rintro e w' ⟨g1,g2,g3,rfl,hr⟩;have HR:=hid hr;clear hr HC;go_wp2_with fail
 go_ret
 exact⟨g1,g2,g3,rfl,HR.out⟩
def NumsO (s:ByteArray) (w:World) (e:Ending) (w':World):Prop:=
 ((∃ns A c,numsM s.data.toList=some ns∧e= .returned (.tuple #[.slice A ns.length c,.bool true])∧w'.ownsRow w.heap.size 3 1 (.slice A ns.length c) ns.length (ns.map (Value.int .i64)))∨
   (numsM s.data.toList=none∧e= .returned (.tuple #[.slice none 0 0,.bool false])))∧Below w.heap.size w w'
attribute [local go_sem] Oper.semAt_some
structure NmI (w:World) (N q2 q3 q4 g1 g2 g3 L D:Nat) (rest:ByteArray) (v:Value) (o:Obj) (W:World):Prop where
 b2:W.heap[q2]?=some (.cells #[.slice none 0 0] 29 (0,0))
 b3:W.heap[q3]?=some (.cells #[.bool false] 4 (0,0))
 b4:W.heap[q4]?=some (.cells #[v] 29 (0,0))
 sq:SqC g1 g2 g3 rest W
 lo:W.heap[L]?=some o
 de:W.heap[D]?=some (.deferred (some []))
 bl:Below w.heap.size w W
 ge:w.heap.size≤q2∧q2<q3∧q3<q4∧w.heap.size≤g2∧w.heap.size≤L∧w.heap.size≤N∧g1≠g2
 lt:q4<N∧g1<N∧g2<N∧g3<N
section
variable {w W W':World} {N q2 q3 q4 g1 g2 g3 L D:Nat} {rest:ByteArray} {v:Value} {o:Obj}
theorem NmI.later (h:NmI w N q2 q3 q4 g1 g2 g3 L D rest v o W) (hb:Below W.heap.size W W'):NmI w N q2 q3 q4 g1 g2 g3 L D rest v o W':=
 have k:∀{i:Nat} {x:Obj},W.heap[i]?=some x→W'.heap[i]?=some x:=fun hx=>(hb.block _ (lt_of_some hx)).trans hx
 ⟨k h.b2,k h.b3,k h.b4,⟨k h.sq.c1,k h.sq.c2,k h.sq.c3⟩,k h.lo,k h.de,h.bl.trans (hb.mono h.bl.size),h.ge,h.lt⟩
theorem Jdx {i j:Nat} {x y:Obj} (hi:W.heap[i]?=some x) (hj:W.heap[j]?=some y) (h:x≠y):i≠j:=by
 rintro rfl;rw [hi] at hj;injection hj with hj;exact h hj
theorem NmI.put (h:NmI w N q2 q3 q4 g1 g2 g3 L D rest v o W) (hn:∀cs t f,o≠ .cells cs t f) (hd:o≠ .deferred (some [])) (o':Obj):NmI w N q2 q3 q4 g1 g2 g3 L D rest v o' (W.putObj L o'):=
 have k:∀{i:Nat} {x:Obj},W.heap[i]?=some x→o≠x→(W.putObj L o').heap[i]?=some x:=fun hx hne=>(World.putObj_heap_other (Jdx hx h.lo (Ne.symm hne))).trans hx
 ⟨k h.b2 (hn _ _ _),k h.b3 (hn _ _ _),k h.b4 (hn _ _ _),⟨k h.sq.c1 (hn _ _ _),k h.sq.c2 (hn _ _ _),k h.sq.c3 (hn _ _ _)⟩,World.putObj_heap_same (lt_of_some h.lo),k h.de hd,h.bl.grown (grownBy_putObj' W L o') h.bl.size (fun _ e=>by cases e;exact h.ge.2.2.2.2.1),h.ge,h.lt⟩
theorem NmI.turn (h:NmI w N q2 q3 q4 g1 g2 g3 L D rest v o W) (hn:∀cs t f,o≠ .cells cs t f) (r:ByteArray):NmI w N q2 q3 q4 g1 g2 g3 L D r v o (W.setCell ⟨g2,0,none⟩ (.string r)):=
 have k:∀{i:Nat} {x:Obj},W.heap[i]?=some x→i≠g2→(W.setCell ⟨g2,0,none⟩ (.string r)).heap[i]?=some x:=fun hx hne=>(Below.heap_setCell _ _ _ _ hne).trans hx
 ⟨k h.b2 (Jas h.b2 h.sq.c2 (by decide)),k h.b3 (Jas h.b3 h.sq.c2 (by decide)),k h.b4 (Jas h.b4 h.sq.c2 (by decide)),⟨k h.sq.c1 h.ge.2.2.2.2.2.2,Jbo h.sq.c2 _,k h.sq.c3 (Jas h.sq.c3 h.sq.c2 (by decide))⟩,k h.lo (Jdx h.lo h.sq.c2 (hn _ _ _)),k h.de (Jdx h.de h.sq.c2 (by simp)),h.bl.setCell (p:=⟨g2,0,none⟩) h.ge.2.2.2.1 _,h.ge,h.lt⟩
theorem NmI.back (h:NmI w N q2 q3 q4 g1 g2 g3 L D rest v o W) (hn:∀cs t f,o≠ .cells cs t f):NmI w N q2 q3 q4 g1 g2 g3 L D rest v o ((W.setCell ⟨q2,0,none⟩ (.slice none 0 0)).setCell ⟨q3,0,none⟩ (.bool false)):=by
 have g:=h.ge;have k:∀{i:Nat} {x:Obj},W.heap[i]?=some x→i≠q2→i≠q3→((W.setCell ⟨q2,0,none⟩ (.slice none 0 0)).setCell ⟨q3,0,none⟩ (.bool false)).heap[i]?=some x:=fun hx h1 h2=>(Below.heap_setCell _ _ _ _ h2).trans ((Below.heap_setCell _ _ _ _ h1).trans hx);have n2:∀{i:Nat} {cs:Array Value} {t:TypeId} {f:Nat×Nat},W.heap[i]?=some (.cells cs t f)→t≠29→i≠q2:=fun hx ht=>Jas hx h.b2 ht;have n3:∀{i:Nat} {cs:Array Value} {t:TypeId} {f:Nat×Nat},W.heap[i]?=some (.cells cs t f)→t≠4→i≠q3:=fun hx ht=>Jas hx h.b3 ht;exact⟨(Below.heap_setCell _ _ _ _ (by show q2≠q3;omega)).trans (Jbo h.b2 _),Jbo ((Below.heap_setCell _ _ _ _ (by show q3≠q2;omega)).trans h.b3) _,k h.b4 (by omega) (by omega),
   ⟨k h.sq.c1 (n2 h.sq.c1 (by decide)) (n3 h.sq.c1 (by decide)),k h.sq.c2 (n2 h.sq.c2 (by decide)) (n3 h.sq.c2 (by decide)),k h.sq.c3 (n2 h.sq.c3 (by decide)) (n3 h.sq.c3 (by decide))⟩,
   k h.lo (Jdx h.lo h.b2 (hn _ _ _)) (Jdx h.lo h.b3 (hn _ _ _)),k h.de (Jdx h.de h.b2 (by simp)) (Jdx h.de h.b3 (by simp)),
   (h.bl.setCell (p:=⟨q2,0,none⟩) g.1 _).setCell (p:=⟨q3,0,none⟩) (by show _≤q3;omega) _,h.ge,h.lt⟩
theorem NmI.app {k:Nat} {xs:List Value} (h:NmI w N q2 q3 q4 g1 g2 g3 L D rest v o W) (hn:∀cs t f,o≠ .cells cs t f) (hown:W.ownsRow N 3 1 v k xs) (hg:W.grownBy W' v.ownBlock) (v':Value):NmI w N q2 q3 q4 g1 g2 g3 L D rest v' o (W'.setCell ⟨q4,0,none⟩ v'):=by
 have g:=h.ge;have l:=h.lt;have hv:∀i,v.ownBlock=some i→N≤i∧∃cs t f,W.heap[i]?=some (.cells cs t f):=fun i e=>by
  rcases hown.2 with⟨rfl,_⟩ |⟨j,cap,cur,rfl,hj,hh,_⟩
  ·simp [Value.ownBlock] at e
  ·obtain rfl:j=i:=by simpa [Value.ownBlock] using e
   exact⟨hj,_,_,_,hh⟩
 have k1:∀{i:Nat} {x:Obj},W.heap[i]?=some x→(i<N∨∀cs t f,x≠ .cells cs t f)→W'.heap[i]?=some x:=fun {i x} hx hc=>(hg.block i (lt_of_some hx) (fun e=>by
   obtain⟨h1,cs,t,f,h2⟩:=hv i e.symm;rcases hc with hc |hc
   ·omega
   ·rw [hx] at h2
    injection h2 with h2;exact hc _ _ _ h2)).trans hx
 have k:∀{i:Nat} {x:Obj},W.heap[i]?=some x→(i<N∨∀cs t f,x≠ .cells cs t f)→i≠q4→(W'.setCell ⟨q4,0,none⟩ v').heap[i]?=some x:=fun hx hc h1=>(Below.heap_setCell _ _ _ _ h1).trans (k1 hx hc);exact⟨k h.b2 (.inl (by omega)) (by omega),k h.b3 (.inl (by omega)) (by omega),Jbo (k1 h.b4 (.inl (by omega))) _,
   ⟨k h.sq.c1 (.inl l.2.1) (Jas h.sq.c1 h.b4 (by decide)),k h.sq.c2 (.inl l.2.2.1) (Jas h.sq.c2 h.b4 (by decide)),k h.sq.c3 (.inl l.2.2.2) (Jas h.sq.c3 h.b4 (by decide))⟩,
   k h.lo (.inr hn) (Jdx h.lo h.b4 (hn _ _ _)),k h.de (.inr fun _ _ _ e=>by cases e) (Jdx h.de h.b4 (by simp)),
   (h.bl.grown hg h.bl.size (fun i e=>by have:=(hv i e).1;omega)).setCell (p:=⟨q4,0,none⟩) (by show _≤q4;omega) _,h.ge,h.lt⟩
def NmP (w:World) (N q2 q3 q4 g1 g2 g3 L D:Nat) (rest:ByteArray) (o:Obj) (s:ByteArray) (ps:List ByteArray):Exit→Act→World→Prop
 | .normal,_,W'=>∃v ns,numsL (ps.map fun x=>x.data.toList)=some ns∧NmI w N q2 q3 q4 g1 g2 g3 L D rest v o W'∧W'.ownsRow N 3 1 v ns.length (ns.map (Value.int .i64))
 | .ret,_,W'=>numsM s.data.toList=none∧∃v,NmI w N q2 q3 q4 g1 g2 g3 L D rest v o W'
 |_,_,_=>False
theorem NmI.row {k:Nat} {xs:List Value} (h:NmI w N q2 q3 q4 g1 g2 g3 L D rest v o W) (hown:W.ownsRow N 3 1 v k xs) (hg:W.grownBy W' v.ownBlock):W'.heap[q4]?=some (.cells #[v] 29 (0,0)):=by
 have l:=h.lt;refine (hg.block q4 (lt_of_some h.b4) (fun e=>?_)).trans h.b4;rcases hown.2 with⟨rfl,_⟩ |⟨j,cap,cur,rfl,hj,_⟩
 ·simp [Value.ownBlock] at e
 ·have:q4=j:=by simpa [Value.ownBlock] using e
  omega
theorem NmI.last (h:NmI w N q2 q3 q4 g1 g2 g3 L N rest v o W) (u:Value) (b:Bool):
  ((W.setCell ⟨q2,0,none⟩ u).setCell ⟨q3,0,none⟩ (.bool b)).heap[N]?=some (.deferred (some []))∧
  (((W.setCell ⟨q2,0,none⟩ u).setCell ⟨q3,0,none⟩ (.bool b)).putObj N (.deferred none)).cell? ⟨q2,0,none⟩=some u∧
  (((W.setCell ⟨q2,0,none⟩ u).setCell ⟨q3,0,none⟩ (.bool b)).putObj N (.deferred none)).cell? ⟨q3,0,none⟩=some (.bool b)∧
  Below w.heap.size w (((W.setCell ⟨q2,0,none⟩ u).setCell ⟨q3,0,none⟩ (.bool b)).putObj N (.deferred none)):=by
 have g:=h.ge;have l:=h.lt;have hd:((W.setCell ⟨q2,0,none⟩ u).setCell ⟨q3,0,none⟩ (.bool b)).heap[N]?=some (.deferred (some [])):=(Below.heap_setCell _ _ _ _ (by show N≠q3;omega)).trans ((Below.heap_setCell _ _ _ _ (by show N≠q2;omega)).trans h.de);have e2:((W.setCell ⟨q2,0,none⟩ u).setCell ⟨q3,0,none⟩ (.bool b)).heap[q2]?=some (.cells #[u] 29 (0,0)):=(Below.heap_setCell _ _ _ _ (by show q2≠q3;omega)).trans (Jbo h.b2 _);have e3:((W.setCell ⟨q2,0,none⟩ u).setCell ⟨q3,0,none⟩ (.bool b)).heap[q3]?=some (.cells #[.bool b] 4 (0,0)):=Jbo ((Below.heap_setCell _ _ _ _ (by show q3≠q2;omega)).trans h.b3) _;refine⟨hd,Jaa ((World.putObj_heap_other (by omega)).trans e2) 0,Jaa ((World.putObj_heap_other (by omega)).trans e3) 0,?_⟩;have hb:Below w.heap.size w ((W.setCell ⟨q2,0,none⟩ u).setCell ⟨q3,0,none⟩ (.bool b)):=(h.bl.setCell (p:=⟨q2,0,none⟩) g.1 _).setCell (p:=⟨q3,0,none⟩) (by show _≤q3;omega) _;exact hb.grown (grownBy_putObj' _ N _) hb.size (fun _ e=>by cases e;omega)
end
theorem Jq1 {w:World} {B B':Nat} {e:TypeId} {size n:Nat} {v:Value} {xs:List Value} (h:w.ownsRow B' e size v n xs) (hB:B≤B'):w.ownsRow B e size v n xs:=by
 refine⟨h.1,?_⟩;rcases h.2 with h0 |⟨g,cap,cur,h1,h2,h3⟩
 ·exact .inl h0
 ·exact .inr ⟨g,cap,cur,h1,Nat.le_trans hB h2,h3⟩
theorem Jtg {pre:List ByteArray} {ns:List Int} (h:numsL (pre.map fun x=>x.data.toList)=some ns):ns.length=pre.length:=by
 have:=congrArg List.length (Jey h).1;simpa using this
theorem infoI:(Tryz.prog.info? 3).map (fun i=>(i.zero,i.size,i.bytes))=some (some (.int .i64 0),1,8):=by kernel_rfl
theorem Jbp (m:Int) (s:ByteArray) (w:World) (hs:s.size≤1000000) (hE:Env m w):Calls prog 71 #[.string s] w (NumsO s w):=by
 obtain⟨i0,hi,hz0,hz1,hz2⟩:=info_parts infoI;refine (callsIn_wide (n:=9)).1 ?_;refine callsIn_of_wp_marks func71 rfl trivial ?_ rfl;simp only [ntmps71,List.size_toArray,List.length_cons,List.length_nil,Nat.reduceAdd,Nat.reduceSub,Array.replicate_succ,Array.replicate_zero,List.push_toArray,List.append_toArray,List.nil_append,List.cons_append]
 gi_wp2_with (refine⟨trivial,?_⟩;gi_at_call 107;refine (callsIn_wide.2 (Jjt s _)).mono ?_;rintro e w' ⟨g1,g2,g3,rfl,hsq,hg1,hg2,hg3,h12,hb⟩)
 have s1:(w.alloc (.cells #[.slice none 0 0] 29)).heap.size=w.heap.size+1:=by simp
 have s2:((w.alloc (.cells #[.slice none 0 0] 29)).alloc (.cells #[.bool false] 4)).heap.size=w.heap.size+1+1:=by simp
 obtain⟨WA,hWA⟩:=words.nm (((w.alloc (.cells #[.slice none 0 0] 29)).alloc (.cells #[.bool false] 4)).alloc (.cells #[.slice none 0 0] 29));rw [←hWA] at hg1 hg2 hg3 hb;have sA:WA.heap.size=w.heap.size+1+1+1:=by rw [hWA];simp
 have r2:WA.heap[w.heap.size]?=some (.cells #[.slice none 0 0] 29 (0,0)):=by
  rw [hWA];exact (Below.heap_alloc _ _ _ (by rw [s2];omega)).trans ((Below.heap_alloc _ _ _ (by rw [s1];omega)).trans (heap_alloc_new w _))
 have r3:WA.heap[w.heap.size+1]?=some (.cells #[.bool false] 4 (0,0)):=by
  rw [hWA,←s1];exact (Below.heap_alloc _ _ _ (by simp)).trans (heap_alloc_new _ _)
 have r4:WA.heap[w.heap.size+1+1]?=some (.cells #[.slice none 0 0] 29 (0,0)):=by
  rw [hWA,←s2];exact heap_alloc_new _ _
 have hbA:Below w.heap.size w WA:=by rw [hWA];exact (((Below.refl _ _).alloc (Nat.le_refl _) _).alloc (by rw [s1];omega) _).alloc (by rw [s2];omega) _
 have hb0:Below w.heap.size w w':=hbA.trans (hb.mono hbA.size);have kA:∀{i:Nat} {x:Obj},WA.heap[i]?=some x→w'.heap[i]?=some x:=fun hx=>(hb.block _ (lt_of_some hx)).trans hx;have hsz:=hb.size;have hq:w.heap.size≤g2:=by omega
 have l1:=lt_of_some hsq.c1;have l2:=lt_of_some hsq.c2;have l3:=lt_of_some hsq.c3;obtain⟨q3,hq3⟩:=words.nm (w.heap.size+1);obtain⟨q4,hq4⟩:=words.nm (q3+1);obtain⟨q2,hq2⟩:=words.nm (w.heap.size);have hgo:∀(N:Nat) (L:Nat) (o:Obj) (W:World),Below w'.heap.size w' W→N=w'.heap.size→L=N+1→W.heap[L]?=some o→W.heap[N]?=some (.deferred (some []))→NmI w N q2 q3 q4 g1 g2 g3 L N s (.slice none 0 0) o W:=fun N L o W hw hN hL ho hd=>by
  have kW:∀{i:Nat} {x:Obj},w'.heap[i]?=some x→W.heap[i]?=some x:=fun hx=>(hw.block _ (lt_of_some hx)).trans hx;subst hN;exact⟨by rw [hq2];exact kW (kA r2),by rw [hq3];exact kW (kA r3),by rw [hq4,hq3];exact kW (kA r4),⟨kW hsq.c1,kW hsq.c2,kW hsq.c3⟩,ho,hd,hb0.trans (hw.mono hb0.size),⟨by omega,by omega,by omega,hq,by omega,by omega,h12⟩,⟨by omega,l1,l2,l3⟩⟩
 rw [←hq3,←hq4,←hq2];obtain⟨N,hN⟩:=words.nm (w'.heap.size);have HGo:=hid hgo;have HE:=hid hE;have HQ:=hid (And.intro hq2 (And.intro hq3 hq4));have hbw:Below w.heap.size w w':=hb0;clear hgo hE hq hq2 hq3 hq4 hWA r2 r3 r4 hbA hb0 kA s1 s2 sA hsz hg1 hg2 hg3 hb hsq l1 l2 l3 h12;generalize hA:Code.region 3 _ _=ASG;generalize hBd:Code.block 1 _=BODY;refine wpIn_rangeFunc ?_;intro fn hfn;obtain⟨rec,hrec⟩:∃rec:LoopState→Option Code→Loop,rec=fun st pe=>{state:=st,pending:=pe,fn,tmps:=#[.string s,undef,.pointer (some ⟨q2,0,none⟩),.pointer (some ⟨q3,0,none⟩),.pointer (some ⟨q4,0,none⟩),undef,undef,undef,.string s,.func (.func 169) #[] #[.pointer (some ⟨g1,0,none⟩),.pointer (some ⟨g2,0,none⟩),.pointer (some ⟨g3,0,none⟩)],undef,undef,undef,undef,undef,undef,undef,undef,undef,undef,undef,undef,undef],params:=#[10],assign:=ASG,body:=BODY,defers:=N}:=⟨_,rfl⟩
 have sD:(w'.alloc (.deferred (some []))).heap.size=w'.heap.size+1:=by simp
 obtain⟨W1,hW1⟩:=words.nm ((w'.alloc (.deferred (some []))).alloc (.loop (rec .ready none)));have hl1:W1.heap[w'.heap.size+1]?=some (.loop (rec .ready none)):=by rw [hW1,←sD];exact World.alloc_heap_new _ _
 have hd1:W1.heap[w'.heap.size]?=some (.deferred (some [])):=by
  rw [hW1];exact (Below.heap_alloc _ _ _ (by simp)).trans (World.alloc_heap_new w' _)
 have hb1:Below w'.heap.size w' W1:=by rw [hW1];exact ((Below.refl _ _).alloc (Nat.le_refl _) _).alloc (by rw [sD];omega) _
 have hI1:=HGo.out N (N+1) _ W1 hb1 hN rfl (by rw [hN];exact hl1) (by rw [hN];exact hd1);have eg:=enters_of (P:=prog) func169 (by kernel_rfl) rfl;have hen:=run_enterLoop_outer (P:=prog) (w:=w') fn (rec .ready none).tmps #[10] ASG BODY;rw [hrec] at hen hW1;rw [←hN] at hen;rw [←hW1] at hen;clear hW1 hl1 hd1 hb1 sD hN hbw;refine⟨N+1,[{target:= .collected N,args:=#[]}],W1,{target:= .fn (.func 169) #[.pointer (some ⟨g1,0,none⟩),.pointer (some ⟨g2,0,none⟩),.pointer (some ⟨g3,0,none⟩)],args:=#[.func (.yield (N+1)) #[] #[]]},W1,169,#[.func (.yield (N+1)) #[] #[],.pointer (some ⟨g1,0,none⟩),.pointer (some ⟨g2,0,none⟩),.pointer (some ⟨g3,0,none⟩)],W1,hen,?_,fun _ _=>trivial,?_,fun _=>by omega,?_⟩
 ·simp [resolve,go_sem]
 ·simp [invoke,go_sem]
 have hno:∀st pe cs t f,Obj.loop (rec st pe)≠ .cells cs t f:=fun _ _ _ _ _ e=>by cases e
 have hnd:∀st pe,Obj.loop (rec st pe)≠ .deferred (some []):=fun _ _ e=>by cases e
 refine (Jv5 (9 - 1) (by omega) (N+1) g1 g2 g3 s
   (fun pre rest W=>∃v ns,numsL (pre.map fun x=>x.data.toList)=some ns∧NmI w N q2 q3 q4 g1 g2 g3 (N+1) N rest v (.loop (rec .ready none)) W∧W.ownsRow N 3 1 v ns.length (ns.map (Value.int .i64)))
   (fun W=>numsM s.data.toList=none∧∃v rest,NmI w N q2 q3 q4 g1 g2 g3 (N+1) N rest v (.loop (rec .done (some .ret))) W) hs ?_ ?_ ?_ W1 ⟨_,[],rfl,hI1,World.ownsRow_nil _ _ _ _⟩).mono ?_
 ·rintro pre rest W ⟨v,ns,_,h,_⟩
  exact h.sq
 ·rintro pre rest rest' W ⟨v,ns,h1,h2,h3⟩
  refine⟨v,ns,h1,h2.turn (hno _ _) rest',Jad h3 ?_ _⟩;intro e;have hlt:=h2.lt;rcases h3.2 with⟨rfl,_⟩ |⟨j,cap,cur,rfl,hj,_⟩
  ·simp [Value.ownBlock] at e
  ·have:j=g2:=by simpa [Value.ownBlock] using e
   omega
 ·rintro pre rest x W ⟨v,ns,hns,hI,hown⟩ hx hmem hlt
  have hyr:=run_yield (P:=prog) (args:=#[.string x]) hI.lo (by rw [hrec];rfl);rw [hrec] at hyr;refine⟨fn,_,ASG,BODY,hyr,roundIn_of_wpIn trivial ?_⟩;clear hyr;rw [←hA]
  gi_wp2
  refine⟨_,run_beginRound hI.lo (by rw [hrec]),?_⟩;have hI2:=hI.put (hno _ _) (hnd _ _) (.loop {rec .ready none with state:= .busy});have hown2:=ownsRow_putObj hown (.loop {rec .ready none with state:= .busy}) hI.lo rfl;generalize hW2:W.putObj _ _=W2 at hI2 hown2 ⊢;obtain⟨RC,hRC⟩:∃RC:Obj,RC=Obj.loop {rec .ready none with state:= .busy}:=⟨_,rfl⟩
  have hnRC:∀cs t f,RC≠ .cells cs t f:=fun _ _ _ e=>by rw [hRC] at e;cases e
  have hdRC:RC≠ .deferred (some []):=fun e=>by rw [hRC] at e;cases e
  rw [←hRC] at hI2;refine wpIn_mono (Q:=NmP w N q2 q3 q4 g1 g2 g3 (N+1) N rest RC s (pre++[x])) ?_ ?_
  ·have HI2:=hid (And.intro hI2 hown2)
   have HPl:=hid (And.intro hns (And.intro hmem hlt));have HRC:=hid (And.intro hnRC hdRC);have hcall:=CallsIn.inRound (N+1) (callsIn_wide (n:=9 - 1 - 1 - 1).2 (Jak m x W2 (by omega) (HE.out.later hI2.bl)));clear hI hown hI2 hown2 hns hmem hlt hRC hen hI1 hnRC hdRC hrec hno hnd hW2;rw [←hBd];clear hBd hA
   gi_wp2_with fail
   refine⟨trivial,?_⟩
   gi_at_call 108
   refine hcall.mono ?_;rintro e w3 ⟨ho,hb3⟩;have hI3:=HI2.out.1.later hb3;have hO3:w3.ownsRow N 3 1 v ns.length (ns.map (Value.int .i64)):=by
    refine⟨HI2.out.2.1,?_⟩;rcases HI2.out.2.2 with h |⟨g,cap,cur,h1,h2,h3,h4⟩
    ·exact .inl h
    ·exact .inr ⟨g,cap,cur,h1,h2,(hb3.block _ (lt_of_some h3)).trans h3,h4⟩
   clear hcall;rcases ho with⟨hn,rfl⟩ |⟨k,hn,rfl⟩
   ·have d2:=Jaa hI3.b2 0
    have d3:=Jaa hI3.b3 0;have z2:=Jab hI3.b2 0;have z3:=Jab hI3.b3 0;have hge:=hI3.ge;have y3:=(Below.heap_setCell w3 ⟨q2,0,none⟩ (.slice none 0 0) q3 (by show q3≠q2;omega)).trans hI3.b3;have x3:=Jaa y3 0;have v3:=Jab y3 0;have HF:Hid (NmP w N q2 q3 q4 g1 g2 g3 (N+1) N rest RC s (pre++[x]) .ret {tmps:=#[],defers:=[]} ((w3.setCell ⟨q2,0,none⟩ (.slice none 0 0)).setCell ⟨q3,0,none⟩ (.bool false))):=hid ⟨Jja _ _ HPl.out.2.1 hn,v,hI3.back HRC.out.1⟩;clear hI3 hO3 hn hb3 hge y3
    gi_wp2
    exact HF.out
   ·have d4:=Jaa hI3.b4 0
    have hlb:ns.length≤1000000:=by
     have hln:=Jtg HPl.out.1;have hsl:=Jlr 32 s.data.toList;rw [size_list] at hsl;have hlt:=HPl.out.2.2;omega
    have hB:=hI3.bl;have hN0:=hI3.ge.2.2.2.2.2.1;have hNw:N<w3.heap.size:=lt_of_some hI3.de;have hnn:numsL ((pre++[x]).map fun x=>x.data.toList)=some (ns++[k]):=by
     rw [List.map_append,List.map_cons,List.map_nil,Jhq _ _ _ HPl.out.1,hn];rfl
    have hI4:=hI3.later ((Below.refl w3.heap.size w3).alloc (Nat.le_refl _) (.cells #[.int .i64 k] 3));have HNN:=hid hnn;have HI4:=hid hI4;have HB:=hid (And.intro hB hN0);have z4:=Jab hI3.b4 0;clear hI3 hn hb3 hnn hI4 hB hN0;have hmm:ns.length+1≤maxLen:=by unfold maxLen;omega
    have hmb:(ns.length+1)*8≤140737488355328:=by omega
    gi_wp2_with (gi_at_builtin;refine wpListIn_append_own _ rfl _ _ 29 rfl N 3 i0 (.int .i64 0) 1 8 underlying29 hi hz0 hz1 hz2 rfl (by decide) _ _ _ rfl (hO3.alloc _) ⟨w3.heap.size,0,none⟩ 1 1 [.int .i64 k] rfl rfl (cell_one_new _ _ _) (by simp [Value.oneCell']) hmm hmb (by simp;omega) ?_;intro v' w1 hown' hgrow _;obtain⟨g',cap',rfl⟩:=ownsRow_succ hown';have hq4:=HI4.out.row (hO3.alloc _) hgrow;have u4:=Jaa hq4 0;have y4:=Jab hq4 0;clear d4 z4;have HG:=hid (And.intro hown' hgrow);clear hown' hgrow hq4)
    refine⟨_,ns++[k],HNN.out,HI4.out.app HRC.out.1 (hO3.alloc _) HG.out.2 _,?_⟩;have h5:=HG.out.1;rw [List.length_append,List.map_append];refine Jad h5 ?_ _;intro e;have hl4:=HI4.out.lt;have h6:g'=q4:=by simpa [Value.ownBlock] using e
    rcases h5.2 with⟨h7,_⟩ |⟨j,cap,cur,h7,hj,_⟩
    ·cases h7
    ·injection h7 with h8
     injection h8 with h8;injection h8 with h8;omega
  ·clear hBd hA hen
   rintro e a3 W3 hp;cases e with
   |normal=>
    obtain⟨v2,ns2,h1,h2,h3⟩:=hp;have hl:=h2.lo;rw [hRC] at hl;have hr:=run_endRound (P:=prog) none hl;refine⟨_,_,hr,.inl ⟨rfl,v2,ns2,by simpa using h1,?_,ownsRow_putObj h3 _ h2.lo (by rw [hRC];rfl)⟩⟩;have:=h2.put hnRC hdRC (.loop (rec .ready none));rw [hrec] at this ⊢;exact this
   |ret=>
    obtain⟨h1,v2,h2⟩:=hp;have hl:=h2.lo;rw [hRC] at hl;have hr:=run_endRound (P:=prog) (some .ret) hl;refine⟨_,_,hr,.inr ⟨rfl,h1,v2,rest,?_⟩⟩;have:=h2.put hnRC hdRC (.loop (rec .done (some .ret)));rw [hrec] at this ⊢;exact this
   |exit id=>exact hp.elim
   |goto t=>exact hp.elim
   |panic ch=>exact hp.elim
   |outgrown=>exact hp.elim
 ·clear hBd hA hen eg hfn hI1
  rintro e W2 ⟨⟨v,rfl⟩,(⟨ps,rest,hps,v2,ns,h1,h2,h3⟩ |⟨h1,v2,rest,h2⟩)⟩
  ·obtain⟨W4,hW4⟩:=words.nm (W2.putObj (N+1) (.loop (rec .exhausted none)))
   have hr:(Instr.endLoop (N+1)).run prog W2= .ok none W4:=by
    have:=run_endLoop (P:=prog) h2.lo (by rw [hrec];simp);rw [hrec] at this hW4;rw [hW4];exact this
   have h4:=h2.put (hno _ _) (hnd _ _) (.loop (rec .exhausted none));have h5:=ownsRow_putObj h3 (.loop (rec .exhausted none)) h2.lo rfl;rw [←hW4] at h4 h5;refine⟨none,W4,hr,?_⟩;clear hW4;obtain⟨A,l,c,rfl⟩:=Jd8 h5;have hl:l=ns.length:=by
    rcases h5.2 with⟨h6,h7⟩ |⟨j,cap,cur,h6,_⟩
    ·injection h6 with _ h6 _
     omega
    ·injection h6
   subst hl;have d4:=Jaa h4.b4 0;have d2:=Jaa h4.b2 0;have z2:=Jab h4.b2 0;have hge:=h4.ge;have y3:=(Below.heap_setCell W4 ⟨q2,0,none⟩ (.slice A ns.length c) q3 (by show q3≠q2;omega)).trans h4.b3;have x3:=Jaa y3 0;have v3:=Jab y3 0;have H4:=hid (And.intro h4 h5);have HP:=hid (And.intro hps h1);clear hno hnd hrec h1 h2 h3 h4 h5 hr hge y3 hps
   gi_wp2
   have hln:=H4.out.1.last (.slice A ns.length c) true;obtain⟨p1,p2,p3,p4⟩:=hln;have hge:=H4.out.1.ge;have hlt:=H4.out.1.lt;refine⟨by simp,.inl ⟨_,_,rfl,run_takeDeferred p1,?_⟩⟩;refine⟨.tuple #[.slice A ns.length c,.bool true],by simp [results,results71,go_sem,p2,p3],.inl ⟨ns,A,c,?_,rfl,?_⟩,p4⟩
   ·unfold numsM
    rw [←HP.out.1];exact HP.out.2
   ·have hnb:∀q,q<N→(Value.slice A ns.length c).ownBlock≠some q:=fun q hq e=>by
     rcases H4.out.2.2 with⟨h6,_⟩ |⟨j,cap,cur,h6,hj,_⟩
     ·rw [h6] at e
      simp [Value.ownBlock] at e
     ·rw [h6] at e
      have:j=q:=by simpa [Value.ownBlock] using e
      omega
    exact Jq1 (ownsRow_putObj (Jad (Jad H4.out.2 (hnb q2 (by omega)) _) (hnb q3 (by omega)) _) _ p1 rfl) hge.2.2.2.2.2.1
  ·obtain⟨W4,hW4⟩:=words.nm (W2.putObj (N+1) (.loop (rec .exhausted (some .ret))))
   have hr:(Instr.endLoop (N+1)).run prog W2= .ok (some .ret) W4:=by
    have:=run_endLoop (P:=prog) h2.lo (by rw [hrec];simp);rw [hrec] at this hW4;rw [hW4];exact this
   have h4:=h2.put (hno _ _) (hnd _ _) (.loop (rec .exhausted (some .ret)));rw [←hW4] at h4;refine⟨some .ret,W4,hr,?_⟩;clear hW4;have H4:=hid (And.intro h4 h1);clear hno hnd hrec h1 h2 h4 hr
   gi_wp2
   have h4:=H4.out.1;have hge:=h4.ge;have hlt:=h4.lt;have c2:=Jaa ((World.putObj_heap_other (w:=W4) (o:= .deferred none) (show q2≠N by omega)).trans h4.b2) 0;have c3:=Jaa ((World.putObj_heap_other (w:=W4) (o:= .deferred none) (show q3≠N by omega)).trans h4.b3) 0;have hb:Below w.heap.size w (W4.putObj N (.deferred none)):=h4.bl.grown (grownBy_putObj' _ N _) h4.bl.size (fun _ e=>by cases e;omega);refine⟨by simp,.inl ⟨_,_,rfl,run_takeDeferred h4.de,?_⟩⟩;exact⟨.tuple #[.slice none 0 0,.bool false],by simp [results,results71,go_sem,c2,c3],.inr ⟨H4.out.2,rfl⟩,hb⟩
end Go.Proofs.YtekekhgjobahaaaGreatDoor.scr
