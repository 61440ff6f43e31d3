import Derived.Test.YtcoimjbhoiipoaaGreatDoorG11
import Derived.Test.YtcoimjbhoiipoaaGreatDoorG13
import Derived.Test.YtcoimjbhoiipoaaGreatDoorG15
set_option maxHeartbeats 3200000
set_option maxRecDepth 100000
open Go.Lib (hid)
open Go.Proofs.Tryz
namespace Go.Proofs.YtcoimjbhoiipoaaGreatDoor.tre
open Go.RowKit words ext name

theorem Jau (a b:UInt8) (x y:List UInt8):Op.bytesLess (a::x) (b::y)=(decide (a<b)||(a==b&&Op.bytesLess x y)):=rfl
theorem Jb5 (x:List UInt8):Op.bytesLess x []=false:=by cases x<;>rfl
theorem Jc6:∀x:List UInt8,Op.bytesLess x x=false
 |[]=>rfl
 |a::x=>by rw [Jau,Jc6 x];simp
theorem Jce:∀x y:List UInt8,Op.bytesLess y x= !(Op.bytesLess x y||x==y)
 |[],[]=>rfl
 |[],_::_=>rfl
 |_::_,[]=>rfl
 |a::x,b::y=>by
  rw [Jau,Jau,Jce x y];rcases Nat.lt_trichotomy a.toNat b.toNat with h |h |h
  ·have h1:a<b:=h
   have h2:¬b<a:=by intro h2;have:b.toNat<a.toNat:=h2;omega
   have h3:(b==a)=false:=by rw [beq_eq_false_iff_ne];rintro rfl;omega
   simp [h1,h2,h3]
  ·obtain rfl:a=b:=UInt8.toNat_inj.1 h
   simp
  ·have h1:b<a:=h
   have h2:¬a<b:=by intro h2;have:a.toNat<b.toNat:=h2;omega
   have h3:(a==b)=false:=by rw [beq_eq_false_iff_ne];rintro rfl;omega
   have h4:(a::x==b::y)=false:=by rw [beq_eq_false_iff_ne];intro e;injection e with e _;rw [e] at h;omega
   simp [h1,h2,h3,h4]
theorem Jcg:∀{x y z:List UInt8},Op.bytesLess x y=true→Op.bytesLess y z=true→Op.bytesLess x z=true
 |_,_,[],_,h2=>by rw [Jb5] at h2;cases h2
 |[],_,_::_,_,_=>rfl
 |_::_,[],_::_,h1,_=>by cases h1
 |a::x,b::y,c::z,h1,h2=>by
  rw [Jau] at h1 h2 ⊢;simp only [Bool.or_eq_true,decide_eq_true_eq,Bool.and_eq_true,beq_iff_eq] at h1 h2 ⊢;rcases h1 with h1 |⟨rfl,h1⟩
  ·rcases h2 with h2 |⟨rfl,h2⟩
   ·left
    have a1:a.toNat<b.toNat:=h1;have a2:b.toNat<c.toNat:=h2;show a.toNat<c.toNat;omega
   ·exact .inl h1
  ·rcases h2 with h2 |⟨rfl,h2⟩
   ·exact .inl h2
   ·exact .inr ⟨rfl,Jcg h1 h2⟩
theorem Jjs (a b:ByteArray):lessB b a= !(Op.bytesLess a.toList b.toList||a.toList==b.toList):=Jce _ _
theorem drop_byte (s:ByteArray) (k:Nat) (h:k<s.size):s.toList.drop k=s[k]::s.toList.drop (k+1):=by
 rw [name.to_list];have:s[k]=s.data.toList[k]'(by rw [name.size_list];exact h):=rfl;rw [this];exact List.drop_eq_getElem_cons _
theorem Jey {P:Program} {f:FuncId} {args:Array Value} {w:World} {n:Nat} {v:Value}
  (h:Calls P f args (w.drewN n) fun e w'=>e= .returned v∧w.drewN n=w'):Calls P f args (w.drewN n) fun e w'=>e= .returned v∧∃m,w'=w.drewN m:=
 h.mono fun _ _ ⟨he,hm⟩=>⟨he,n,hm.symm⟩
theorem Jf2 {P:Program} {f:FuncId} {args:Array Value} {w:World} {n:Nat} {v:Value}
  (h:Calls P f args (w.drewN n) fun e w'=>e= .returned v∧∃q,(w.drewN n).drewN q=w'):Calls P f args (w.drewN n) fun e w'=>e= .returned v∧∃m,w'=w.drewN m:=
 h.mono fun _ _ ⟨he,q,hm⟩=>⟨he,n+q,by rw [←hm,World.drewN_drewN]⟩
theorem Jpa (a b:ByteArray) (w:World) (ha:a.size≤140737488355328):
  Calls prog 75 #[.string a,.string b] w fun e w'=>e= .returned (.bool (lessB a b))∧∃n,w.drewN n=w':=by
 go_enter func75,ntmps75
 go_wp2_with fail
 go_loopw [5] (fun c wr=>∃(k n:Nat),k≤a.size∧k≤b.size∧c= .int .i64 k∧Hid (lessB a b=Op.bytesLess (a.toList.drop k) (b.toList.drop k))∧wr=w.drewN n)
  (fun c _=>a.size - (intOf c).toNat)
 case atStart=>exact⟨0,0,Nat.zero_le _,Nat.zero_le _,rfl,hid rfl,rfl⟩
 case round=>
  obtain⟨k,nd,hk,hk2,rfl,HL,rfl⟩:=hrel;by_cases h1:k<a.size
  ·by_cases h2:k<b.size
   ·have i0:(0:Int)≤(k:Int):=by omega
    have i1:(k:Int)<(a.size:Int):=by omega
    have i2:(k:Int)<(b.size:Int):=by omega
    have HD:=hid (show lessB a b=(decide (a[k]<b[k])||(a[k]==b[k]&&Op.bytesLess (a.toList.drop (k+1)) (b.toList.drop (k+1)))) by rw [HL.out,drop_byte a k h1,drop_byte b k h2,Jau]);by_cases he:a[k]=b[k]
    ·have g1:((a[k].toNat:Int) !=(b[k].toNat:Int))=false:=by rw [he];simp
     have HN:=hid (show lessB a b=Op.bytesLess (a.toList.drop (k+1)) (b.toList.drop (k+1)) by rw [HD.out,he];simp);have HE:=hid he;clear he;go_wp2_with fail
     go_quiet (fail)
     go_wp2_with fail
     go_roundw
     case rel=>exact⟨k+1,_,by omega,by omega,by go_num,HN,rfl⟩
     case measure=>simp [intOf];omega
    ·have g1:((a[k].toNat:Int) !=(b[k].toNat:Int))=true:=by
      rw [bne_iff_ne];intro e;exact he (UInt8.toNat_inj.1 (by simpa using Int.ofNat_inj.1 e))
     have HF:=hid (show decide (a[k].toNat<b[k].toNat)=lessB a b by
       rw [HD.out,show (a[k]==b[k])=false by rw [beq_eq_false_iff_ne];exact he,Bool.false_and,Bool.or_false];rfl)
     have HE:=hid he;clear he;go_wp2_with fail
     go_quiet (fail)
     go_wp2_with fail
     go_quiet (fail)
     go_wp2_with fail
     go_ret
     exact⟨Jac HF.out,by rw [World.drewN_drewN];exact Jc3⟩
   ·have HF:=hid (show false=lessB a b by rw [HL.out,List.drop_of_length_le (l:=b.toList) (by rw [name.to_list,name.size_list];omega),Jb5])
    have g:¬(a.size:Int)<(b.size:Int):=by omega
    have g3:¬a.size<b.size:=by omega
    go_wp2_with fail
    go_ret
    exact⟨Jac HF.out,nd,rfl⟩
  ·obtain rfl:k=a.size:=by omega
   by_cases h2:a.size<b.size
   ·have HF:=hid (show true=lessB a b by
      rw [HL.out,List.drop_of_length_le (l:=a.toList) (by rw [name.to_list,name.size_list];omega),drop_byte b _ h2];rfl)
    go_wp2_with fail
    go_ret
    exact⟨Jac HF.out,nd,rfl⟩
   ·have HF:=hid (show false=lessB a b by rw [HL.out,List.drop_of_length_le (l:=b.toList) (by rw [name.to_list,name.size_list];omega),Jb5])
    go_wp2_with fail
    go_ret
    exact⟨Jac HF.out,nd,rfl⟩

def prevOf (N:List ByteArray):Nat→Option ByteArray
 |0=>none
 |k+1=>N[k]?
theorem Jat (p:Option ByteArray) (s:ByteArray) (L:List ByteArray):riseFrom p (s::L)=((right s.data.toList&&(match p with |none=>true |some q=>lessB q s))&&riseFrom (some s) L):=rfl
def Rises (N:List ByteArray) (k:Nat):Prop:=riseB N=riseFrom (prevOf N k) (N.drop k)
theorem Rises.start (N:List ByteArray):Rises N 0:=rfl
theorem Rises.next {N:List ByteArray} {k:Nat} {s:ByteArray} (h:Rises N k) (hs:N[k]?=some s) (h1:right s.data.toList=true) (h2:∀q,prevOf N k=some q→lessB q s=true):Rises N (k+1):=by
 unfold Rises at h ⊢;rw [h,drop_at hs,Jat,h1];rcases hp:prevOf N k with _ |q
 ·rw [show prevOf N (k+1)=some s from hs];rfl
 ·show ((true&&lessB q s)&&_)=_
  rw [h2 q hp,show prevOf N (k+1)=some s from hs];rfl
theorem Rises.no1 {N:List ByteArray} {k:Nat} {s:ByteArray} (h:Rises N k) (hs:N[k]?=some s) (h1:right s.data.toList=false):riseB N=false:=by
 unfold Rises at h;rw [h,drop_at hs,Jat,h1,Bool.false_and,Bool.false_and]
theorem Rises.no2 {N:List ByteArray} {k:Nat} {s q:ByteArray} (h:Rises N k) (hs:N[k]?=some s) (hq:prevOf N k=some q) (h2:lessB q s=false):riseB N=false:=by
 unfold Rises at h;rw [h,drop_at hs,Jat,hq];show ((_&&lessB q s)&&_)=false;rw [h2,Bool.and_false,Bool.false_and]
theorem Rises.done {N:List ByteArray} {k:Nat} (h:Rises N k) (hk:N.length≤k):riseB N=true:=by
 unfold Rises at h;rw [h,List.drop_of_length_le hk];rfl
theorem Jlq (A:Option Addr) (cap:Nat) (N:List ByteArray) (w:World) (hI:Txts w w.heap.size A N) (hlen:N.length≤4611686018427387904):
  Calls prog 82 #[.slice A N.length cap] w fun e w'=>e= .returned (.bool (riseB N))∧w=w':=by
 have HI:=hid hI;clear hI;go_enter func82,ntmps82
 go_wp2_with fail
 go_loop [7] (fun c=>∃(k:Nat),k≤N.length∧c= .int .i64 k∧Rises N k) (fun c=>N.length - (intOf c).toNat)
 case atStart=>exact⟨0,Nat.zero_le _,rfl,Rises.start N⟩
 case round=>
  obtain⟨k,hk,rfl,hr⟩:=hrel;have HR:=hid hr;clear hr;by_cases hlt:k<N.length
  ·obtain⟨s,hs⟩:∃s,N[k]?=some s:=⟨_,List.getElem?_eq_getElem hlt⟩
   obtain⟨⟨b,off,hA,hB,c0⟩,hz⟩:=HI.out k s hs;have HS:=hid hs;have i0:(0:Int)≤(k:Int):=by omega
   have i1:(k:Int)<(N.length:Int):=by omega
   rcases hrt:right s.data.toList with _ |_
   ·have HN:=hid (HR.out.no1 hs hrt)
    have HT:=hid hrt;subst hA;clear hs hrt;go_wp2_with fail
    refine (Jk0 s _ (by omega) HT.out).mono ?_;rintro e w' ⟨rfl,rfl⟩;go_wp2_with fail
    go_ret
    exact⟨Jac HN.out.symm,rfl⟩
   ·have HT:=hid hrt
    rcases k with _ |j
    ·have HN:=hid (HR.out.next hs hrt (fun q hq=>by cases hq))
     subst hA;have c0':w.cell? ⟨b,off,none⟩=some (.string s):=c0;clear hs hrt c0;go_wp2_with fail
     refine (Jcn s _ (by omega) HT.out).mono ?_;rintro e w' ⟨rfl,rfl⟩;go_wp2_with fail
     go_round
     case rel=>exact⟨0+1,by omega,by go_num,HN.out⟩
     case measure=>simp [intOf];omega
    ·obtain⟨q,hq⟩:∃q,N[j]?=some q:=⟨_,List.getElem?_eq_getElem (by omega)⟩
     obtain⟨⟨b',off',hA',_,c1⟩,hz'⟩:=HI.out j q hq;have HL:=hid (Jjs s q);subst hA;injection hA' with e1;injection e1 with e2 e3;subst e2 e3;rcases hb1:Op.bytesLess s.toList q.toList with _ |_
     ·rcases hb2:(s.toList==q.toList) with _ |_
      ·have HN:=hid (HR.out.next hs hrt (fun q' hq'=>by
         obtain rfl:q=q':=by
          have:N[j]?=some q':=hq';rw [hq] at this;exact Option.some.inj this
         rw [HL.out,hb1,hb2];rfl))
       clear hs hrt hq;go_wp2_with fail
       refine (Jcn s _ (by omega) HT.out).mono ?_;rintro e w' ⟨rfl,rfl⟩;go_wp2_with fail
       go_round
       case rel=>exact⟨j+1+1,by omega,by go_num,HN.out⟩
       case measure=>simp [intOf];omega
      ·have HN:=hid (HR.out.no2 hs hq (by rw [HL.out,hb1,hb2];rfl))
       clear hs hrt hq;go_wp2_with fail
       refine (Jcn s _ (by omega) HT.out).mono ?_;rintro e w' ⟨rfl,rfl⟩;go_wp2_with fail
       go_ret
       exact⟨Jac HN.out.symm,rfl⟩
     ·have HN:=hid (HR.out.no2 hs hq (by rw [HL.out,hb1];rfl))
      clear hs hrt hq;go_wp2_with fail
      refine (Jcn s _ (by omega) HT.out).mono ?_;rintro e w' ⟨rfl,rfl⟩;go_wp2_with fail
      go_ret
      exact⟨Jac HN.out.symm,rfl⟩
  ·have HD:=hid (HR.out.done (by omega))
   go_wp2_with fail
   go_ret
   exact⟨Jac HD.out.symm,rfl⟩
theorem Jl1 (s:ByteArray) (m:Int) (w:World) (hs:s.size≤140737488355328) (hm:w.cell? ⟨0,0,none⟩=some (.int .i64 m)):
  Calls prog 83 #[.string s] w fun e w'=>e= .returned (.bool (pathB s))∧Below w.heap.size w w':=by
 have HM:=hid hm;clear hm;go_enter func83,ntmps83
 go_wp2_with fail
 refine (Jny s m _ (by omega) HM.out).mono ?_;rintro e w2 ⟨hsp,hb2⟩;have HB2:=hid hb2;clear hb2;rcases hsp with⟨hp,rfl⟩ |⟨v,Q,hp,rfl,_⟩
 ·have HF:=hid (show false=pathB s by unfold pathB;rw [hp];rfl)
  clear hp;go_wp2_with fail
  go_ret
  exact⟨Jac HF.out,HB2.out⟩
 ·by_cases hz:s.size≤256
  ·have HF:=hid (show true=pathB s by unfold pathB;rw [hp,decide_eq_true hz];rfl)
   have g:(s.size:Int)≤256:=by omega
   clear hp;go_wp2_with fail
   go_ret
   exact⟨Jac HF.out,HB2.out⟩
  ·have HF:=hid (show false=pathB s by unfold pathB;rw [hp,decide_eq_false hz];rfl)
   have g:¬(s.size:Int)≤256:=by omega
   clear hp;go_wp2_with fail
   go_ret
   exact⟨Jac ((decide_eq_false (by omega)).trans HF.out),HB2.out⟩

theorem Je0 (s:ByteArray) (r:Bool) (w:World) (hs:s.size≤9223372036854775807) (h:right s.data.toList=r):Calls prog 74 #[.string s] w fun e w'=>e= .returned (.bool r)∧w=w':=
 (Jba s w hs).mono fun _ _ ⟨he,hw⟩=>⟨by rw [he,h],hw⟩
theorem Jmp (a b:ByteArray) (r:Bool) (w:World) (ha:a.size≤140737488355328) (h:lessB a b=r):Calls prog 75 #[.string a,.string b] w fun e w'=>e= .returned (.bool r)∧∃n,w.drewN n=w':=
 (Jpa a b w ha).mono fun _ _ ⟨he,hw⟩=>⟨by rw [he,h],hw⟩

def Qt (a w:World):Prop:=∃n,w=a.drewN n
theorem Qt.refl (a:World):Qt a a:=⟨0,rfl⟩
theorem Qt.drewN {a w:World} (h:Qt a w) (n:Nat):Qt a (w.drewN n):=by
 obtain⟨m,rfl⟩:=h;exact⟨m+n,World.drewN_drewN _ _ _⟩
theorem Qt.below {a w:World} (h:Qt a w) (B:Nat):Below B a w:=by
 obtain⟨m,rfl⟩:=h;exact below_drewN (Below.refl _ _) _
theorem Jjk (n:Nd) (r:Raw) (w:World) (hN:Txts w w.heap.size r.An n.N) (fit:Fit n r):
  Calls prog 49 #[ndV n r] w fun e w'=>e= .returned (.bool (n.N.length==n.I.length&&riseB n.N))∧Below w.heap.size w w':=by
 have f1:=fit.ln;have f2:=fit.li;obtain⟨W1,hW1⟩:=words.nm (w.alloc (.cells (rawCells n r) 28));have hb1:=words.b1 hW1;have HX1:Hid (Box W1 w.heap.size n r):=by rw [hW1];exact hid (Box.new w n r)
 have HI:=hid ((hN.keep hb1).more hb1.size);have HB1:=hid hb1;unfold rawCells at hW1;have HW1:=hid hW1;clear hN fit hb1 hW1;unfold ndV rawCells;by_cases hlen:n.N.length=n.I.length
 ·have g0:((n.N.length:Int) !=(n.I.length:Int))=false:=by rw [hlen];simp
  have HE:=hid (show (n.N.length==n.I.length&&riseB n.N)=riseB n.N by rw [show (n.N.length==n.I.length)=true by rw [beq_iff_eq];exact hlen,Bool.true_and]);clear hlen;go_enter func49,ntmps49
  go_wp2_with fail
  rw [←HW1.out];obtain⟨b0,b1,b2,b3,b4,b5,b6⟩:=HX1.out.cells;go_wp2_with fail
  clear g0 b0 b1 b2 b3 b4 b5 b6;go_loopw [3] (fun c wr=>∃(k:Nat),k≤n.N.length∧c= .int .i64 k∧Rises n.N k∧Qt W1 wr) (fun c _=>n.N.length - (intOf c).toNat)
  case atStart=>exact⟨0,Nat.zero_le _,rfl,Rises.start _,Qt.refl _⟩
  case round=>
   obtain⟨k,hk,rfl,hr,hqt⟩:=hrel;have HR:=hid hr;have HQ:=hid hqt;have HIr:=hid ((HI.out.keep (hqt.below _)).more (hqt.below W1.heap.size).size);have HBr:=hid (HB1.out.trans (hqt.below w.heap.size));obtain⟨b0,b1,b2,b3,b4,b5,b6⟩:=(HX1.out.below (hqt.below _)).cells;clear hr hqt;by_cases hlt:k<n.N.length
   ·obtain⟨s,hs⟩:∃s,n.N[k]?=some s:=⟨_,List.getElem?_eq_getElem hlt⟩
    obtain⟨⟨b,off,hA,hB,c0⟩,hz⟩:=HIr.out k s hs;rw [hA] at b2;have i0:(0:Int)≤(k:Int):=by omega
    have i1:(k:Int)<(n.N.length:Int):=by omega
    rcases hrt:right s.data.toList with _ |_
    ·have HN:=hid (HR.out.no1 hs hrt)
     have HT:=hid hrt;have HAn:=hid hA;clear hs hrt hA;go_wp2_with fail
     go_quiet ((go_at_call 74;exact Jey (Je0 s false _ (by omega) HT.out)))
     go_wp2_with fail
     go_ret
     exact⟨Jac (by rw [HE.out,HN.out]),below_drewN HBr.out _⟩
    ·have HT:=hid hrt
     rcases Nat.eq_zero_or_pos k with hk0 |hkp
     ·have HN:=hid (HR.out.next hs hrt (fun q hq=>by rw [hk0] at hq;cases hq))
      have p1:¬(0:Int)<(k:Int):=by omega
      have p2:decide (0<k)=false:=by simp;omega
      have p4:¬0<k:=by omega
      have HAn:=hid hA;clear hs hrt hA hk0;go_wp2_with fail
      go_quiet ((go_at_call 74;exact Jey (Je0 s true _ (by omega) HT.out)))
      go_wp2_with fail
      go_roundw
      case rel=>exact⟨k+1,by omega,by go_num,HN.out,HQ.out.drewN _⟩
      case measure=>simp [intOf];omega
     ·obtain⟨j,hj⟩:∃j,k=j+1:=⟨k - 1,by omega⟩
      obtain⟨q,hq⟩:∃q,n.N[j]?=some q:=⟨_,List.getElem?_eq_getElem (by omega)⟩
      obtain⟨⟨b',off',hA',_,c1⟩,hz'⟩:=HIr.out j q hq;have hpv:prevOf n.N k=some q:=by rw [hj];exact hq
      rw [hA] at hA';injection hA' with e1;injection e1 with e2 e3;subst e2 e3;have p1:(0:Int)<(k:Int):=by omega
      have p2:decide (0<k)=true:=by simp;omega
      have hw1:IntKind.i64.wrap ((k:Int) - 1)=(j:Int):=by rw [IntWalk.i64_in _ ⟨by omega,by omega⟩];omega
      have j0:(0:Int)≤(j:Int):=by omega
      have j1:(j:Int)<(n.N.length:Int):=by omega
      have jn:((j:Int)).toNat=j:=by omega
      rcases hls:lessB q s with _ |_
      ·have HL:=hid hls
       have HN:=hid (HR.out.no2 hs hpv hls);have HAn:=hid hA;clear hs hrt hA hj hq hpv hls;go_wp2_with fail
       go_quiet (first |(go_at_call 74;exact Jey (Je0 s true _ (by omega) HT.out)) |(go_at_call 75;exact Jf2 (Jmp q s false _ hz' HL.out)))
       go_wp2_with fail
       go_ret
       exact⟨Jac (by rw [HE.out,HN.out]),below_drewN HBr.out _⟩
      ·have HL:=hid hls
       have HN:=hid (HR.out.next hs hrt (fun q' hq'=>by
         rw [hpv] at hq';obtain rfl:q=q':=Option.some.inj hq';exact hls))
       have HAn:=hid hA;clear hs hrt hA hj hq hpv hls;go_wp2_with fail
       go_quiet (first |(go_at_call 74;exact Jey (Je0 s true _ (by omega) HT.out)) |(go_at_call 75;exact Jf2 (Jmp q s true _ hz' HL.out)))
       go_wp2_with fail
       go_roundw
       case rel=>exact⟨k+1,by omega,by go_num,HN.out,HQ.out.drewN _⟩
       case measure=>simp [intOf];omega
   ·have HD:=hid (HR.out.done (by omega))
    go_wp2_with fail
    go_ret
    exact⟨Jac (by rw [HE.out,HD.out]),HBr.out⟩
 ·have g0:((n.N.length:Int) !=(n.I.length:Int))=true:=by rw [bne_iff_ne];omega
  have HE:=hid (show (n.N.length==n.I.length&&riseB n.N)=false by rw [show (n.N.length==n.I.length)=false by rw [beq_eq_false_iff_ne];exact hlen,Bool.false_and]);clear hlen;go_enter func49,ntmps49
  go_wp2_with fail
  rw [←HW1.out];obtain⟨b0,b1,b2,b3,b4,b5,b6⟩:=HX1.out.cells;go_wp2_with fail
  go_ret
  exact⟨Jac HE.out.symm,HB1.out⟩
end Go.Proofs.YtcoimjbhoiipoaaGreatDoor.tre
