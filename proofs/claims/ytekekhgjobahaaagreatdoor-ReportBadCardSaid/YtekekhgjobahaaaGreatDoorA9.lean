import Derived.Test.YtekekhgjobahaaaGreatDoorA6
import Derived.Test.YtekekhgjobahaaaGreatDoorA7
import Derived.Test.YtekekhgjobahaaaGreatDoorA8
import Derived.Deep.DeepCutAuto
set_option maxHeartbeats 6400000
set_option maxRecDepth 100000
open Go.Lib (hid)
open Go.Proofs.Tryz hiding parts
namespace Go.Proofs.YtekekhgjobahaaaGreatDoor.tre
open Go.RowKit words ext name

theorem Ja0 (a b:UInt8) (x y:List UInt8):Op.bytesLess (a::x) (b::y)=(decide (a<b)||(a==b&&Op.bytesLess x y)):=rfl
theorem Jcb (x:List UInt8):Op.bytesLess x []=false:=by cases x<;>rfl
theorem Jdi:∀x:List UInt8,Op.bytesLess x x=false
 |[]=>rfl
 |a::x=>by rw [Ja0,Jdi x];simp
theorem Jcq:∀x y:List UInt8,Op.bytesLess y x= !(Op.bytesLess x y||x==y)
 |[],[]=>rfl
 |[],_::_=>rfl
 |_::_,[]=>rfl
 |a::x,b::y=>by
  rw [Ja0,Ja0,Jcq x y];rcases Nat.lt_trichotomy a.toNat b.toNat with h |h |h
  ·have h1:a<b:=h
   have h2:¬b<a:=by intro h2;have:b.toNat<a.toNat:=h2;omega
   have h3:(b==a)=false:=by rw [beq_eq_false_iff_ne];rintro rfl;omega
   simp [h1,h2,h3]
  ·obtain rfl:a=b:=UInt8.toNat_inj.1 h
   simp
  ·have h1:b<a:=h
   have h2:¬a<b:=by intro h2;have:a.toNat<b.toNat:=h2;omega
   have h3:(a==b)=false:=by rw [beq_eq_false_iff_ne];rintro rfl;omega
   have h4:(a::x==b::y)=false:=by rw [beq_eq_false_iff_ne];intro e;injection e with e _;rw [e] at h;omega
   simp [h1,h2,h3,h4]
theorem Jcz:∀{x y z:List UInt8},Op.bytesLess x y=true→Op.bytesLess y z=true→Op.bytesLess x z=true
 |_,_,[],_,h2=>by rw [Jcb] at h2;cases h2
 |[],_,_::_,_,_=>rfl
 |_::_,[],_::_,h1,_=>by cases h1
 |a::x,b::y,c::z,h1,h2=>by
  rw [Ja0] at h1 h2 ⊢;simp only [Bool.or_eq_true,decide_eq_true_eq,Bool.and_eq_true,beq_iff_eq] at h1 h2 ⊢;rcases h1 with h1 |⟨rfl,h1⟩
  ·rcases h2 with h2 |⟨rfl,h2⟩
   ·left
    have a1:a.toNat<b.toNat:=h1;have a2:b.toNat<c.toNat:=h2;show a.toNat<c.toNat;omega
   ·exact .inl h1
  ·rcases h2 with h2 |⟨rfl,h2⟩
   ·exact .inl h2
   ·exact .inr ⟨rfl,Jcz h1 h2⟩
theorem Jl0 (a b:ByteArray):lessB b a= !(Op.bytesLess a.toList b.toList||a.toList==b.toList):=Jcq _ _
theorem drop_byte (s:ByteArray) (k:Nat) (h:k<s.size):s.toList.drop k=s[k]::s.toList.drop (k+1):=by
 rw [name.to_list];have:s[k]=s.data.toList[k]'(by rw [name.size_list];exact h):=rfl;rw [this];exact List.drop_eq_getElem_cons _
theorem Jfw {P:Program} {f:FuncId} {args:Array Value} {w:World} {n:Nat} {v:Value}
  (h:Calls P f args (w.drewN n) fun e w'=>e= .returned v∧w.drewN n=w'):Calls P f args (w.drewN n) fun e w'=>e= .returned v∧∃m,w'=w.drewN m:=
 h.mono fun _ _ ⟨he,hm⟩=>⟨he,n,hm.symm⟩
theorem Jhe {P:Program} {f:FuncId} {args:Array Value} {w:World} {n:Nat} {v:Value}
  (h:Calls P f args (w.drewN n) fun e w'=>e= .returned v∧∃q,(w.drewN n).drewN q=w'):Calls P f args (w.drewN n) fun e w'=>e= .returned v∧∃m,w'=w.drewN m:=
 h.mono fun _ _ ⟨he,q,hm⟩=>⟨he,n+q,by rw [←hm,World.drewN_drewN]⟩
theorem Jnl (a b:ByteArray) (w:World) (ha:a.size≤140737488355328):
  Calls prog 135 #[.string a,.string b] w fun e w'=>e= .returned (.bool (lessB a b))∧∃n,w.drewN n=w':=by
 go_enter func135,ntmps135
 go_wp2_with fail
 go_loopw [5] (fun c wr=>∃(k n:Nat),k≤a.size∧k≤b.size∧c= .int .i64 k∧Hid (lessB a b=Op.bytesLess (a.toList.drop k) (b.toList.drop k))∧wr=w.drewN n)
  (fun c _=>a.size - (intOf c).toNat)
 case atStart=>exact⟨0,0,Nat.zero_le _,Nat.zero_le _,rfl,hid rfl,rfl⟩
 case round=>
  obtain⟨k,nd,hk,hk2,rfl,HL,rfl⟩:=hrel;by_cases h1:k<a.size
  ·by_cases h2:k<b.size
   ·have i0:(0:Int)≤(k:Int):=by omega
    have i1:(k:Int)<(a.size:Int):=by omega
    have i2:(k:Int)<(b.size:Int):=by omega
    have HD:=hid (show lessB a b=(decide (a[k]<b[k])||(a[k]==b[k]&&Op.bytesLess (a.toList.drop (k+1)) (b.toList.drop (k+1)))) by rw [HL.out,drop_byte a k h1,drop_byte b k h2,Ja0]);by_cases he:a[k]=b[k]
    ·have g1:((a[k].toNat:Int) !=(b[k].toNat:Int))=false:=by rw [he];simp
     have HN:=hid (show lessB a b=Op.bytesLess (a.toList.drop (k+1)) (b.toList.drop (k+1)) by rw [HD.out,he];simp);have HE:=hid he;clear he;go_wp2_with fail
     go_quiet (fail)
     go_wp2_with fail
     go_roundw
     case rel=>exact⟨k+1,_,by omega,by omega,by go_num,HN,rfl⟩
     case measure=>simp [intOf];omega
    ·have g1:((a[k].toNat:Int) !=(b[k].toNat:Int))=true:=by
      rw [bne_iff_ne];intro e;exact he (UInt8.toNat_inj.1 (by simpa using Int.ofNat_inj.1 e))
     have HF:=hid (show decide (a[k].toNat<b[k].toNat)=lessB a b by
       rw [HD.out,show (a[k]==b[k])=false by rw [beq_eq_false_iff_ne];exact he,Bool.false_and,Bool.or_false];rfl)
     have HE:=hid he;clear he;go_wp2_with fail
     go_quiet (fail)
     go_wp2_with fail
     go_quiet (fail)
     go_wp2_with fail
     go_ret
     exact⟨Jac HF.out,by rw [World.drewN_drewN];exact Jdd⟩
   ·have HF:=hid (show false=lessB a b by rw [HL.out,List.drop_of_length_le (l:=b.toList) (by rw [name.to_list,name.size_list];omega),Jcb])
    have g:¬(a.size:Int)<(b.size:Int):=by omega
    have g3:¬a.size<b.size:=by omega
    go_wp2_with fail
    go_ret
    exact⟨Jac HF.out,nd,rfl⟩
  ·obtain rfl:k=a.size:=by omega
   by_cases h2:a.size<b.size
   ·have HF:=hid (show true=lessB a b by
      rw [HL.out,List.drop_of_length_le (l:=a.toList) (by rw [name.to_list,name.size_list];omega),drop_byte b _ h2];rfl)
    go_wp2_with fail
    go_ret
    exact⟨Jac HF.out,nd,rfl⟩
   ·have HF:=hid (show false=lessB a b by rw [HL.out,List.drop_of_length_le (l:=b.toList) (by rw [name.to_list,name.size_list];omega),Jcb])
    go_wp2_with fail
    go_ret
    exact⟨Jac HF.out,nd,rfl⟩

def prevOf (N:List ByteArray):Nat→Option ByteArray
 |0=>none
 |k+1=>N[k]?
theorem Jaz (p:Option ByteArray) (s:ByteArray) (L:List ByteArray):riseFrom p (s::L)=((right s.data.toList&&(match p with |none=>true |some q=>lessB q s))&&riseFrom (some s) L):=rfl
def Rises (N:List ByteArray) (k:Nat):Prop:=riseB N=riseFrom (prevOf N k) (N.drop k)
theorem Rises.start (N:List ByteArray):Rises N 0:=rfl
theorem Rises.next {N:List ByteArray} {k:Nat} {s:ByteArray} (h:Rises N k) (hs:N[k]?=some s) (h1:right s.data.toList=true) (h2:∀q,prevOf N k=some q→lessB q s=true):Rises N (k+1):=by
 unfold Rises at h ⊢;rw [h,drop_at hs,Jaz,h1];rcases hp:prevOf N k with _ |q
 ·rw [show prevOf N (k+1)=some s from hs];rfl
 ·show ((true&&lessB q s)&&_)=_
  rw [h2 q hp,show prevOf N (k+1)=some s from hs];rfl
theorem Rises.no1 {N:List ByteArray} {k:Nat} {s:ByteArray} (h:Rises N k) (hs:N[k]?=some s) (h1:right s.data.toList=false):riseB N=false:=by
 unfold Rises at h;rw [h,drop_at hs,Jaz,h1,Bool.false_and,Bool.false_and]
theorem Rises.no2 {N:List ByteArray} {k:Nat} {s q:ByteArray} (h:Rises N k) (hs:N[k]?=some s) (hq:prevOf N k=some q) (h2:lessB q s=false):riseB N=false:=by
 unfold Rises at h;rw [h,drop_at hs,Jaz,hq];show ((_&&lessB q s)&&_)=false;rw [h2,Bool.and_false,Bool.false_and]
theorem Rises.done {N:List ByteArray} {k:Nat} (h:Rises N k) (hk:N.length≤k):riseB N=true:=by
 unfold Rises at h;rw [h,List.drop_of_length_le hk];rfl
theorem Jo2 (A:Option Addr) (cap:Nat) (N:List ByteArray) (w:World) (hI:Txts w w.heap.size A N) (hlen:N.length≤4611686018427387904):
  Calls prog 180 #[.slice A N.length cap] w fun e w'=>e= .returned (.bool (riseB N))∧w=w':=by
 have HI:=hid hI;clear hI;go_enter func180,ntmps180
 go_wp2_with fail
 go_loop [7] (fun c=>∃(k:Nat),k≤N.length∧c= .int .i64 k∧Rises N k) (fun c=>N.length - (intOf c).toNat)
 case atStart=>exact⟨0,Nat.zero_le _,rfl,Rises.start N⟩
 case round=>
  obtain⟨k,hk,rfl,hr⟩:=hrel;have HR:=hid hr;clear hr;by_cases hlt:k<N.length
  ·obtain⟨s,hs⟩:∃s,N[k]?=some s:=⟨_,List.getElem?_eq_getElem hlt⟩
   obtain⟨⟨b,off,hA,hB,c0⟩,hz⟩:=HI.out k s hs;have HS:=hid hs;have i0:(0:Int)≤(k:Int):=by omega
   have i1:(k:Int)<(N.length:Int):=by omega
   rcases hrt:right s.data.toList with _ |_
   ·have HN:=hid (HR.out.no1 hs hrt)
    have HT:=hid hrt;subst hA;clear hs hrt;go_wp2_with fail
    refine (Jmz s _ (by omega) HT.out).mono ?_;rintro e w' ⟨rfl,rfl⟩;go_wp2_with fail
    go_ret
    exact⟨Jac HN.out.symm,rfl⟩
   ·have HT:=hid hrt
    rcases k with _ |j
    ·have HN:=hid (HR.out.next hs hrt (fun q hq=>by cases hq))
     subst hA;have c0':w.cell? ⟨b,off,none⟩=some (.string s):=c0;clear hs hrt c0;go_wp2_with fail
     refine (Jco s _ (by omega) HT.out).mono ?_;rintro e w' ⟨rfl,rfl⟩;go_wp2_with fail
     go_round
     case rel=>exact⟨0+1,by omega,by go_num,HN.out⟩
     case measure=>simp [intOf];omega
    ·obtain⟨q,hq⟩:∃q,N[j]?=some q:=⟨_,List.getElem?_eq_getElem (by omega)⟩
     obtain⟨⟨b',off',hA',_,c1⟩,hz'⟩:=HI.out j q hq;have HL:=hid (Jl0 s q);subst hA;injection hA' with e1;injection e1 with e2 e3;subst e2 e3;rcases hb1:Op.bytesLess s.toList q.toList with _ |_
     ·rcases hb2:(s.toList==q.toList) with _ |_
      ·have HN:=hid (HR.out.next hs hrt (fun q' hq'=>by
         obtain rfl:q=q':=by
          have:N[j]?=some q':=hq';rw [hq] at this;exact Option.some.inj this
         rw [HL.out,hb1,hb2];rfl))
       clear hs hrt hq;go_wp2_with fail
       refine (Jco s _ (by omega) HT.out).mono ?_;rintro e w' ⟨rfl,rfl⟩;go_wp2_with fail
       go_round
       case rel=>exact⟨j+1+1,by omega,by go_num,HN.out⟩
       case measure=>simp [intOf];omega
      ·have HN:=hid (HR.out.no2 hs hq (by rw [HL.out,hb1,hb2];rfl))
       clear hs hrt hq;go_wp2_with fail
       refine (Jco s _ (by omega) HT.out).mono ?_;rintro e w' ⟨rfl,rfl⟩;go_wp2_with fail
       go_ret
       exact⟨Jac HN.out.symm,rfl⟩
     ·have HN:=hid (HR.out.no2 hs hq (by rw [HL.out,hb1];rfl))
      clear hs hrt hq;go_wp2_with fail
      refine (Jco s _ (by omega) HT.out).mono ?_;rintro e w' ⟨rfl,rfl⟩;go_wp2_with fail
      go_ret
      exact⟨Jac HN.out.symm,rfl⟩
  ·have HD:=hid (HR.out.done (by omega))
   go_wp2_with fail
   go_ret
   exact⟨Jac HD.out.symm,rfl⟩
theorem Jor (s:ByteArray) (m:Int) (w:World) (hs:s.size≤140737488355328) (hm:w.cell? ⟨1,0,none⟩=some (.int .i64 m)):
  Calls prog 181 #[.string s] w fun e w'=>e= .returned (.bool (pathB s))∧Below w.heap.size w w':=by
 have HM:=hid hm;clear hm;go_enter func181,ntmps181
 go_wp2_with fail
 refine (Jrt s m _ (by omega) HM.out).mono ?_;rintro e w2 ⟨hsp,hb2⟩;have HB2:=hid hb2;clear hb2;rcases hsp with⟨hp,rfl⟩ |⟨v,Q,hp,rfl,_⟩
 ·have HF:=hid (show false=pathB s by unfold pathB;rw [hp];rfl)
  clear hp;go_wp2_with fail
  go_ret
  exact⟨Jac HF.out,HB2.out⟩
 ·by_cases hz:s.size≤256
  ·have HF:=hid (show true=pathB s by unfold pathB;rw [hp,decide_eq_true hz];rfl)
   have g:(s.size:Int)≤256:=by omega
   clear hp;go_wp2_with fail
   go_ret
   exact⟨Jac HF.out,HB2.out⟩
  ·have HF:=hid (show false=pathB s by unfold pathB;rw [hp,decide_eq_false hz];rfl)
   have g:¬(s.size:Int)≤256:=by omega
   clear hp;go_wp2_with fail
   go_ret
   exact⟨Jac ((decide_eq_false (by omega)).trans HF.out),HB2.out⟩

theorem Jfq (s:ByteArray) (r:Bool) (w:World) (hs:s.size≤9223372036854775807) (h:right s.data.toList=r):Calls prog 134 #[.string s] w fun e w'=>e= .returned (.bool r)∧w=w':=
 (Jbi s w hs).mono fun _ _ ⟨he,hw⟩=>⟨by rw [he,h],hw⟩
theorem Jru (a b:ByteArray) (r:Bool) (w:World) (ha:a.size≤140737488355328) (h:lessB a b=r):Calls prog 135 #[.string a,.string b] w fun e w'=>e= .returned (.bool r)∧∃n,w.drewN n=w':=
 (Jnl a b w ha).mono fun _ _ ⟨he,hw⟩=>⟨by rw [he,h],hw⟩

def Qt (a w:World):Prop:=∃n,w=a.drewN n
theorem Qt.refl (a:World):Qt a a:=⟨0,rfl⟩
theorem Qt.drewN {a w:World} (h:Qt a w) (n:Nat):Qt a (w.drewN n):=by
 obtain⟨m,rfl⟩:=h;exact⟨m+n,World.drewN_drewN _ _ _⟩
theorem Qt.below {a w:World} (h:Qt a w) (B:Nat):Below B a w:=by
 obtain⟨m,rfl⟩:=h;exact below_drewN (Below.refl _ _) _
theorem Jg1 (n:Nd) (r:Raw) (w:World) (hN:Txts w w.heap.size r.An n.N) (fit:Fit n r):
  Calls prog 101 #[ndV n r] w fun e w'=>e= .returned (.bool (n.N.length==n.I.length&&riseB n.N))∧Below w.heap.size w w':=by
 have f1:=fit.ln;have f2:=fit.li;obtain⟨W1,hW1⟩:=words.nm (w.alloc (.cells (rawCells n r) 46));have hb1:=words.b1 hW1;have HX1:Hid (Box W1 w.heap.size n r):=by rw [hW1];exact hid (Box.new w n r)
 have HI:=hid ((hN.keep hb1).more hb1.size);have HB1:=hid hb1;unfold rawCells at hW1;have HW1:=hid hW1;clear hN fit hb1 hW1;unfold ndV rawCells;by_cases hlen:n.N.length=n.I.length
 ·have g0:((n.N.length:Int) !=(n.I.length:Int))=false:=by rw [hlen];simp
  have HE:=hid (show (n.N.length==n.I.length&&riseB n.N)=riseB n.N by rw [show (n.N.length==n.I.length)=true by rw [beq_iff_eq];exact hlen,Bool.true_and]);clear hlen;go_enter func101,ntmps101
  go_wp2_with fail
  rw [←HW1.out];obtain⟨b0,b1,b2,b3,b4,b5,b6⟩:=HX1.out.cells;go_wp2_with fail
  clear g0 b0 b1 b2 b3 b4 b5 b6;go_loopw [3] (fun c wr=>∃(k:Nat),k≤n.N.length∧c= .int .i64 k∧Rises n.N k∧Qt W1 wr) (fun c _=>n.N.length - (intOf c).toNat)
  case atStart=>exact⟨0,Nat.zero_le _,rfl,Rises.start _,Qt.refl _⟩
  case round=>
   obtain⟨k,hk,rfl,hr,hqt⟩:=hrel;have HR:=hid hr;have HQ:=hid hqt;have HIr:=hid ((HI.out.keep (hqt.below _)).more (hqt.below W1.heap.size).size);have HBr:=hid (HB1.out.trans (hqt.below w.heap.size));obtain⟨b0,b1,b2,b3,b4,b5,b6⟩:=(HX1.out.below (hqt.below _)).cells;clear hr hqt;by_cases hlt:k<n.N.length
   ·obtain⟨s,hs⟩:∃s,n.N[k]?=some s:=⟨_,List.getElem?_eq_getElem hlt⟩
    obtain⟨⟨b,off,hA,hB,c0⟩,hz⟩:=HIr.out k s hs;rw [hA] at b2;have i0:(0:Int)≤(k:Int):=by omega
    have i1:(k:Int)<(n.N.length:Int):=by omega
    rcases hrt:right s.data.toList with _ |_
    ·have HN:=hid (HR.out.no1 hs hrt)
     have HT:=hid hrt;have HAn:=hid hA;clear hs hrt hA;go_wp2_with fail
     go_quiet ((go_at_call 134;exact Jfw (Jfq s false _ (by omega) HT.out)))
     go_wp2_with fail
     go_ret
     exact⟨Jac (by rw [HE.out,HN.out]),below_drewN HBr.out _⟩
    ·have HT:=hid hrt
     rcases Nat.eq_zero_or_pos k with hk0 |hkp
     ·have HN:=hid (HR.out.next hs hrt (fun q hq=>by rw [hk0] at hq;cases hq))
      have p1:¬(0:Int)<(k:Int):=by omega
      have p2:decide (0<k)=false:=by simp;omega
      have p4:¬0<k:=by omega
      have HAn:=hid hA;clear hs hrt hA hk0;go_wp2_with fail
      go_quiet ((go_at_call 134;exact Jfw (Jfq s true _ (by omega) HT.out)))
      go_wp2_with fail
      go_roundw
      case rel=>exact⟨k+1,by omega,by go_num,HN.out,HQ.out.drewN _⟩
      case measure=>simp [intOf];omega
     ·obtain⟨j,hj⟩:∃j,k=j+1:=⟨k - 1,by omega⟩
      obtain⟨q,hq⟩:∃q,n.N[j]?=some q:=⟨_,List.getElem?_eq_getElem (by omega)⟩
      obtain⟨⟨b',off',hA',_,c1⟩,hz'⟩:=HIr.out j q hq;have hpv:prevOf n.N k=some q:=by rw [hj];exact hq
      rw [hA] at hA';injection hA' with e1;injection e1 with e2 e3;subst e2 e3;have p1:(0:Int)<(k:Int):=by omega
      have p2:decide (0<k)=true:=by simp;omega
      have hw1:IntKind.i64.wrap ((k:Int) - 1)=(j:Int):=by rw [IntWalk.i64_in _ ⟨by omega,by omega⟩];omega
      have j0:(0:Int)≤(j:Int):=by omega
      have j1:(j:Int)<(n.N.length:Int):=by omega
      have jn:((j:Int)).toNat=j:=by omega
      rcases hls:lessB q s with _ |_
      ·have HL:=hid hls
       have HN:=hid (HR.out.no2 hs hpv hls);have HAn:=hid hA;clear hs hrt hA hj hq hpv hls;go_wp2_with fail
       go_quiet (first |(go_at_call 134;exact Jfw (Jfq s true _ (by omega) HT.out)) |(go_at_call 135;exact Jhe (Jru q s false _ hz' HL.out)))
       go_wp2_with fail
       go_ret
       exact⟨Jac (by rw [HE.out,HN.out]),below_drewN HBr.out _⟩
      ·have HL:=hid hls
       have HN:=hid (HR.out.next hs hrt (fun q' hq'=>by
         rw [hpv] at hq';obtain rfl:q=q':=Option.some.inj hq';exact hls))
       have HAn:=hid hA;clear hs hrt hA hj hq hpv hls;go_wp2_with fail
       go_quiet (first |(go_at_call 134;exact Jfw (Jfq s true _ (by omega) HT.out)) |(go_at_call 135;exact Jhe (Jru q s true _ hz' HL.out)))
       go_wp2_with fail
       go_roundw
       case rel=>exact⟨k+1,by omega,by go_num,HN.out,HQ.out.drewN _⟩
       case measure=>simp [intOf];omega
   ·have HD:=hid (HR.out.done (by omega))
    go_wp2_with fail
    go_ret
    exact⟨Jac (by rw [HE.out,HD.out]),HBr.out⟩
 ·have g0:((n.N.length:Int) !=(n.I.length:Int))=true:=by rw [bne_iff_ne];omega
  have HE:=hid (show (n.N.length==n.I.length&&riseB n.N)=false by rw [show (n.N.length==n.I.length)=false by rw [beq_eq_false_iff_ne];exact hlen,Bool.false_and]);clear hlen;go_enter func101,ntmps101
  go_wp2_with fail
  rw [←HW1.out];obtain⟨b0,b1,b2,b3,b4,b5,b6⟩:=HX1.out.cells;go_wp2_with fail
  go_ret
  exact⟨Jac HE.out.symm,HB1.out⟩

def bareB (n:Nd):Bool:=noneB n&&emptyB n&&n.T.size==0
theorem Jee {s:ByteArray} (h:s.size=0):s.toList.isEmpty=true:=by
 rw [List.isEmpty_iff,name.to_list];exact List.eq_nil_of_length_eq_zero (by rw [name.size_list];exact h)
theorem Jfy {s:ByteArray} (h:s.size≠0):s.toList.isEmpty=false:=by
 rw [List.isEmpty_eq_false_iff];intro e;have:s.toList.length=0:=by rw [e];rfl
 rw [name.to_list,name.size_list] at this;exact h this
theorem Jc7 {k:Nat} (h:k=0):(((k:Nat):Int)==0)=true:=by rw [h];rfl
theorem Jez {k:Nat} (h:k≠0):(((k:Nat):Int)==0)=false:=by rw [beq_eq_false_iff_ne];omega
theorem Jk6 {n:Nd} (h:n.O=true):noneB n=false:=by unfold noneB;rw [h];rfl
theorem Jr1 {n:Nd} (h:n.N.length≠0):noneB n=false:=by unfold noneB;rw [show (n.N.length==0)=false by rw [beq_eq_false_iff_ne];exact h,Bool.and_false,Bool.false_and]
theorem Jr0 {n:Nd} (h:n.I.length≠0):noneB n=false:=by unfold noneB;rw [show (n.I.length==0)=false by rw [beq_eq_false_iff_ne];exact h,Bool.and_false]
theorem Jqi {n:Nd} (h1:n.O=false) (h2:n.N.length=0) (h3:n.I.length=0):noneB n=true:=by unfold noneB;rw [h1,h2,h3];rfl
theorem Jmy {n:Nd} (h:n.S≠0):emptyB n=false:=by unfold emptyB;rw [show (n.S==0)=false by rw [beq_eq_false_iff_ne];exact h,Bool.false_and]
theorem Jme {n:Nd} (h:n.E.length≠0):emptyB n=false:=by unfold emptyB;rw [show (n.E.length==0)=false by rw [beq_eq_false_iff_ne];exact h,Bool.and_false]
theorem Jm4 {n:Nd} (h1:n.S=0) (h2:n.E.length=0):emptyB n=true:=by unfold emptyB;rw [h1,h2];rfl
theorem Ju4 (n:Nd) (r:Raw) (w:World):Calls prog 182 #[ndV n r] w fun e w'=>e= .returned (.bool (bareB n))∧Below w.heap.size w w':=by
 have HB:=hid (show Below w.heap.size w (w.alloc (.cells (rawCells n r) 46)) from (Below.refl _ _).alloc (Nat.le_refl _) _);unfold rawCells at HB;unfold ndV rawCells;rcases hO:n.O with _ |_
 ·by_cases h2:n.N.length=0
  ·have z2:=Jc7 h2
   by_cases h3:n.I.length=0
   ·have z3:=Jc7 h3
    have H4:=hid (Jqi hO h2 h3);by_cases h5:n.S=0
    ·have z5:(n.S==0)=true:=by rw [h5];rfl
     by_cases h6:n.E.length=0
     ·have z6:=Jc7 h6
      have H6:=hid (Jm4 h5 h6);by_cases h7:n.T.size=0
      ·have z7:=Jee h7
       have HF:=hid (show true=bareB n by unfold bareB;rw [H4.out,H6.out,h7];rfl);clear h2 h3 h5 h6 h7;go_enter func182,ntmps182
       go_wp2_with fail
       go_ret
       rw [hO] at HB;exact⟨Jac HF.out,HB.out⟩
      ·have z7:=Jfy h7
       have HF:=hid (show false=bareB n by unfold bareB;rw [show (n.T.size==0)=false by rw [beq_eq_false_iff_ne];exact h7,Bool.and_false]);clear h2 h3 h5 h6 h7;go_enter func182,ntmps182
       go_wp2_with fail
       go_ret
       rw [hO] at HB;exact⟨Jac HF.out,HB.out⟩
     ·have z6:=Jez h6
      have HF:=hid (show false=bareB n by unfold bareB;rw [Jme h6,Bool.and_false,Bool.false_and]);clear h2 h3 h5 h6;go_enter func182,ntmps182
      go_wp2_with fail
      go_ret
      rw [hO] at HB;exact⟨Jac HF.out,HB.out⟩
    ·have z5:(n.S==0)=false:=by rw [beq_eq_false_iff_ne];exact h5
     have HF:=hid (show false=bareB n by unfold bareB;rw [Jmy h5,Bool.and_false,Bool.false_and]);clear h2 h3 h5;go_enter func182,ntmps182
     go_wp2_with fail
     go_ret
     rw [hO] at HB;exact⟨Jac HF.out,HB.out⟩
   ·have z3:=Jez h3
    have HF:=hid (show false=bareB n by unfold bareB;rw [Jr0 h3,Bool.false_and,Bool.false_and]);clear h2 h3;go_enter func182,ntmps182
    go_wp2_with fail
    go_ret
    rw [hO] at HB;exact⟨Jac HF.out,HB.out⟩
  ·have z2:=Jez h2
   have HF:=hid (show false=bareB n by unfold bareB;rw [Jr1 h2,Bool.false_and,Bool.false_and]);clear h2;go_enter func182,ntmps182
   go_wp2_with fail
   go_ret
   rw [hO] at HB;exact⟨Jac HF.out,HB.out⟩
 ·have HF:=hid (show false=bareB n by unfold bareB;rw [Jk6 hO,Bool.false_and,Bool.false_and])
  go_enter func182,ntmps182
  go_wp2_with fail
  go_ret
  rw [hO] at HB;exact⟨Jac HF.out,HB.out⟩

theorem Jkv (b:Bool) (size:Int) (A:Option Addr) (cap:Nat) (L:List Ex) (w:World) (hI:Exts w w.heap.size A L) (hlen:L.length≤4611686018427387904) (hs1: -9223372036854775808≤size) (hs2:size≤9223372036854775807) (hb:rightB size L=b):
  Calls prog 100 #[.int .i64 size,.slice A L.length cap] w fun e w'=>e= .returned (.bool b)∧Below w.heap.size w w':=
 (Jbi size A cap L w hI hlen hs1 hs2).mono fun _ _ ⟨he,n,hn⟩=>⟨by rw [he,hb],by rw [←hn];exact below_drewN (Below.refl _ _) _⟩
theorem Jny (b:Bool) (n:Nd) (r:Raw) (w:World) (hN:Txts w w.heap.size r.An n.N) (fit:Fit n r) (hb:(n.N.length==n.I.length&&riseB n.N)=b):
  Calls prog 101 #[ndV n r] w fun e w'=>e= .returned (.bool b)∧Below w.heap.size w w':=
 (Jg1 n r w hN fit).mono fun _ _ ⟨he,hw⟩=>⟨by rw [he,hb],hw⟩

theorem Jjd {n:Nd} (h:n.K=1):oneB n=(noneB n&&n.T.size==0&&rightB n.S n.E):=by unfold oneB;rw [if_pos h]
theorem Jhb {n:Nd} (h:n.K=2):oneB n=(emptyB n&&n.T.size==0&&(n.N.length==n.I.length&&riseB n.N)):=by unfold oneB;rw [if_neg (by omega),if_pos h]
theorem Jhk {n:Nd} (h:n.K=3):oneB n=(noneB n&&emptyB n&&pathB n.T):=by unfold oneB;rw [if_neg (by omega),if_neg (by omega),if_pos h]
theorem Jkk {n:Nd} (h:n.K=4):oneB n=(noneB n&&emptyB n&&n.T.size==0):=by unfold oneB;rw [if_neg (by omega),if_neg (by omega),if_neg (by omega),if_pos h]
theorem Ji5 {n:Nd} (h1:n.K≠1) (h2:n.K≠2) (h3:n.K≠3) (h4:n.K≠4):oneB n=false:=by unfold oneB;rw [if_neg h1,if_neg h2,if_neg h3,if_neg h4]
theorem Jij {s:ByteArray} (h:s.size=0):(s.size==0)=true:=by rw [h];rfl
theorem Jl6 {s:ByteArray} (h:s.size≠0):(s.size==0)=false:=by rw [beq_eq_false_iff_ne];exact h
theorem Jlk (s:ByteArray) (w:World) (hs:s.size≤9223372036854775807):
  Calls prog 102 #[.string s] w fun e w'=>(∃v,e= .returned (.tuple #[v,.bool (parts s.data.toList).isSome]))∧Below w.heap.size w w':=
 (Jj8 s w hs).mono fun _ _ ⟨hr,hb⟩=>⟨by
   rcases hr with⟨hp,he⟩ |⟨v,Q,hp,he,_⟩
   ·exact⟨_,by rw [he,hp];rfl⟩
   ·exact⟨v,by rw [he,hp];rfl⟩,hb⟩

theorem Jss (n:Nd) (r:Raw) (w:World) (hN:NdAt w w.heap.size n r):Calls prog 69 #[ndV n r] w fun e w'=>e= .returned (.bool (oneB n))∧Below w.heap.size w w':=by
 obtain⟨W1,hW1⟩:=words.nm (w.alloc (.cells (rawCells n r) 46));have hb1:=words.b1 hW1;have HX1:Hid (Box W1 w.heap.size n r):=by rw [hW1];exact hid (Box.new w n r)
 have HN:=hid (hN.later hb1);have fit:=hN.fit;have f1:=fit.le;have f2:=fit.s1;have f3:=fit.s2;have f4:=fit.t;have HFit:=hid fit;have HB1:=hid hb1;unfold rawCells at hW1;have HW1:=hid hW1;clear hN fit hb1 hW1;unfold ndV rawCells;go_enter func69,ntmps69
 go_upto_region 1 with fail
 rw [←HW1.out];obtain⟨b0,b1,b2,b3,b4,b5,b6⟩:=HX1.out.cells;obtain⟨nb,hnb⟩:=words.nm (noneB n);have HNb:=hid hnb;clear hnb;go_cut [0,3] (fun _ s3 wx=>s3= .bool nb∧wx=W1)
 case first=>
  rcases hO:n.O with _ |_
  ·by_cases h2:n.N.length=0
   ·have z2:=Jc7 h2
    by_cases h3:n.I.length=0
    ·have z3:=Jc7 h3
     have HF:=hid (show true=nb by rw [HNb.out,Jqi hO h2 h3]);clear h2 h3;go_wp2_with fail
     go_meet
     exact⟨by rw [←HF.out],rfl⟩
    ·have z3:=Jez h3
     have HF:=hid (show false=nb by rw [HNb.out,Jr0 h3]);clear h2 h3;go_wp2_with fail
     go_meet
     exact⟨by rw [←HF.out],rfl⟩
   ·have z2:=Jez h2
    have HF:=hid (show false=nb by rw [HNb.out,Jr1 h2]);clear h2;go_wp2_with fail
    go_meet
    exact⟨by rw [←HF.out],rfl⟩
  ·have HF:=hid (show false=nb by rw [HNb.out,Jk6 hO])
   go_wp2_with fail
   go_meet
   exact⟨by rw [←HF.out],rfl⟩
 case rest=>
  obtain⟨rfl,hw⟩:=hcut;subst hw;obtain⟨eb,heb⟩:=words.nm (emptyB n);have HEb:=hid heb;clear heb;go_upto_region 2 with fail
  go_cut [4] (fun s4 wx=>s4= .bool eb∧wx=wc)
  case first=>
   by_cases h5:n.S=0
   ·have z5:(n.S==0)=true:=by rw [h5];rfl
    by_cases h6:n.E.length=0
    ·have z6:=Jc7 h6
     have HF:=hid (show true=eb by rw [HEb.out,Jm4 h5 h6]);clear h5 h6;go_wp2_with fail
     go_meet
     exact⟨by rw [←HF.out],rfl⟩
    ·have z6:=Jez h6
     have HF:=hid (show false=eb by rw [HEb.out,Jme h6]);clear h5 h6;go_wp2_with fail
     go_meet
     exact⟨by rw [←HF.out],rfl⟩
   ·have z5:(n.S==0)=false:=by rw [beq_eq_false_iff_ne];exact h5
    have HF:=hid (show false=eb by rw [HEb.out,Jmy h5]);clear h5;go_wp2_with fail
    go_meet
    exact⟨by rw [←HF.out],rfl⟩
  case rest=>
   obtain⟨rfl,hw⟩:=hcut;subst hw;have hHN:=HN.out;by_cases k1:n.K=1
   ·have g1:(n.K==1)=true:=by rw [k1];rfl
    have HO:=hid (Jjd k1);clear k1;cases nb
    ·have HF:=hid (show false=oneB n by rw [HO.out,←HNb.out,Bool.false_and,Bool.false_and])
     go_wp2_with fail
     go_ret
     exact⟨Jac HF.out,HB1.out⟩
    ·by_cases h7:n.T.size=0
     ·have z7:=Jee h7
      obtain⟨rt,hrt⟩:=words.nm (rightB n.S n.E);have HF:=hid (show rt=oneB n by rw [HO.out,←HNb.out,Jij h7,hrt];rfl);have HRt:=hid hrt;clear h7 hrt;go_wp2_with fail
      refine (Jkv rt n.S r.Ae r.ce n.E _ HN.out.exts (by omega) f2 f3 HRt.out.symm).mono ?_;rintro e w2 ⟨rfl,hb2⟩;have HB2:=hid (HB1.out.trans (hb2.mono HB1.out.size));clear hb2;go_wp2_with fail
      go_ret
      exact⟨Jac HF.out,HB2.out⟩
     ·have z7:=Jfy h7
      have HF:=hid (show false=oneB n by rw [HO.out,Jl6 h7,Bool.and_false,Bool.false_and]);clear h7;go_wp2_with fail
      go_ret
      exact⟨Jac HF.out,HB1.out⟩
   have g1:(n.K==1)=false:=by rw [beq_eq_false_iff_ne];exact k1
   by_cases k2:n.K=2
   ·have g2:(n.K==2)=true:=by rw [k2];rfl
    have HO:=hid (Jhb k2);clear k1 k2;cases eb
    ·have HF:=hid (show false=oneB n by rw [HO.out,←HEb.out,Bool.false_and,Bool.false_and])
     go_wp2_with fail
     go_ret
     exact⟨Jac HF.out,HB1.out⟩
    ·by_cases h7:n.T.size=0
     ·have z7:=Jee h7
      obtain⟨rt,hrt⟩:=words.nm ((n.N.length==n.I.length&&riseB n.N));have HF:=hid (show rt=oneB n by rw [HO.out,←HEb.out,Jij h7,hrt];rfl);have HRt:=hid hrt;clear h7 hrt;go_wp2_with fail
      refine (Jny rt n r _ HN.out.names HFit.out HRt.out.symm).mono ?_;rintro e w2 ⟨rfl,hb2⟩;have HB2:=hid (HB1.out.trans (hb2.mono HB1.out.size));clear hb2;go_wp2_with fail
      go_ret
      exact⟨Jac HF.out,HB2.out⟩
     ·have z7:=Jfy h7
      have HF:=hid (show false=oneB n by rw [HO.out,Jl6 h7,Bool.and_false,Bool.false_and]);clear h7;go_wp2_with fail
      go_ret
      exact⟨Jac HF.out,HB1.out⟩
   have g2:(n.K==2)=false:=by rw [beq_eq_false_iff_ne];exact k2
   by_cases k3:n.K=3
   ·have g3:(n.K==3)=true:=by rw [k3];rfl
    have HO:=hid (Jhk k3);obtain⟨pt,hpt⟩:=words.nm ((parts n.T.data.toList).isSome);have HSp:=hid (Jlk n.T wc (by omega));rw [←hpt] at HSp;have HPt:=hid hpt;clear k1 k2 k3 hpt;go_wp2_with fail
    refine HSp.out.mono ?_;rintro e w2 ⟨⟨v,rfl⟩,hb2⟩;have HB2:=hid (HB1.out.trans (hb2.mono HB1.out.size));have hx2:=HX1.out.below hb2;obtain⟨d0,d1,d2,d3,d4,d5,d6⟩:=hx2.cells;clear hb2 hx2 HSp;cases nb
    ·have HF:=hid (show false=oneB n by rw [HO.out,←HNb.out,Bool.false_and,Bool.false_and])
     go_wp2_with fail
     go_ret
     exact⟨Jac HF.out,HB2.out⟩
    ·cases eb
     ·have HF:=hid (show false=oneB n by rw [HO.out,←HEb.out,Bool.and_false,Bool.false_and])
      go_wp2_with fail
      go_ret
      exact⟨Jac HF.out,HB2.out⟩
     ·cases pt
      ·have HF:=hid (show false=oneB n by rw [HO.out];unfold pathB;rw [←HPt.out,Bool.false_and,Bool.and_false])
       go_wp2_with fail
       go_ret
       exact⟨Jac HF.out,HB2.out⟩
      ·have HF:=hid (show decide (n.T.size≤256)=oneB n by rw [HO.out,←HNb.out,←HEb.out];unfold pathB;rw [←HPt.out];rfl)
       by_cases h7:n.T.size≤256
       ·have g7:(n.T.size:Int)≤256:=by omega
        rw [decide_eq_true h7] at HF;clear h7;go_wp2_with fail
        go_ret
        exact⟨Jac ((decide_eq_true g7).symm.trans (HF.out▸decide_eq_true g7)),HB2.out⟩
       ·have g7:¬(n.T.size:Int)≤256:=by omega
        rw [decide_eq_false h7] at HF;clear h7;go_wp2_with fail
        go_ret
        exact⟨Jac ((decide_eq_false (by omega)).trans HF.out),HB2.out⟩
   have g3:(n.K==3)=false:=by rw [beq_eq_false_iff_ne];exact k3
   by_cases k4:n.K=4
   ·have g4:(n.K==4)=true:=by rw [k4];rfl
    have HO:=hid (Jkk k4);clear k1 k2 k3 k4;cases nb
    ·have HF:=hid (show false=oneB n by rw [HO.out,←HNb.out,Bool.false_and,Bool.false_and])
     go_wp2_with fail
     go_ret
     exact⟨Jac HF.out,HB1.out⟩
    ·cases eb
     ·have HF:=hid (show false=oneB n by rw [HO.out,←HEb.out,Bool.and_false,Bool.false_and])
      go_wp2_with fail
      go_ret
      exact⟨Jac HF.out,HB1.out⟩
     ·by_cases h7:n.T.size=0
      ·have z7:=Jee h7
       have HF:=hid (show true=oneB n by rw [HO.out,←HNb.out,←HEb.out,Jij h7];rfl);clear h7;go_wp2_with fail
       go_ret
       exact⟨Jac HF.out,HB1.out⟩
      ·have z7:=Jfy h7
       have HF:=hid (show false=oneB n by rw [HO.out,Jl6 h7,Bool.and_false]);clear h7;go_wp2_with fail
       go_ret
       exact⟨Jac HF.out,HB1.out⟩
   have g4:(n.K==4)=false:=by rw [beq_eq_false_iff_ne];exact k4
   have HF:=hid (show false=oneB n by rw [Ji5 k1 k2 k3 k4]);clear k1 k2 k3 k4;go_wp2_with fail
   go_ret
   exact⟨Jac HF.out,HB1.out⟩

theorem Jk4 (b:Bool) (size:Int) (A:Option Addr) (cap:Nat) (L:List Ex) (w:World) (hI:Exts w w.heap.size A L) (hlen:L.length≤9223372036854775807) (hs1: -9223372036854775808≤size) (hs2:size≤9223372036854775807) (hb:rightB size L=b):
  Calls prog 179 #[.int .i64 size,.slice A L.length cap] w fun e w'=>e= .returned (.bool b)∧Below w.heap.size w w':=
 (Jgb size A cap L w hI hlen hs1 hs2).mono fun _ _ ⟨he,hw⟩=>⟨by rw [he,hb],hw⟩
theorem Jrb (b:Bool) (A:Option Addr) (cap:Nat) (N:List ByteArray) (w:World) (hI:Txts w w.heap.size A N) (hlen:N.length≤4611686018427387904) (hb:riseB N=b):
  Calls prog 180 #[.slice A N.length cap] w fun e w'=>e= .returned (.bool b)∧w=w':=
 (Jo2 A cap N w hI hlen).mono fun _ _ ⟨he,hw⟩=>⟨by rw [he,hb],hw⟩
theorem Jqx (b:Bool) (s:ByteArray) (m:Int) (w:World) (hs:s.size≤140737488355328) (hm:w.cell? ⟨1,0,none⟩=some (.int .i64 m)) (hb:pathB s=b):
  Calls prog 181 #[.string s] w fun e w'=>e= .returned (.bool b)∧Below w.heap.size w w':=
 (Jor s m w hs hm).mono fun _ _ ⟨he,hw⟩=>⟨by rw [he,hb],hw⟩
theorem Jh0 (b:Bool) (n:Nd) (r:Raw) (w:World) (hb:bareB n=b):Calls prog 182 #[ndV n r] w fun e w'=>e= .returned (.bool b)∧Below w.heap.size w w':=
 (Ju4 n r w).mono fun _ _ ⟨he,hw⟩=>⟨by rw [he,hb],hw⟩
theorem Jao {a w:World} {p:Addr} {u:Value} (h:a.cell? p=some u) (hb:Below a.heap.size a w):w.cell? p=some u:=
 (hb.cell (World.block_lt_of_cell? a _ h)).trans h
theorem Jsa (n:Nd) (r:Raw) (m:Int) (w:World) (hN:NdAt w w.heap.size n r) (hm:w.cell? ⟨1,0,none⟩=some (.int .i64 m)):
  Calls prog 151 #[ndV n r] w fun e w'=>e= .returned (.bool (oneB n))∧Below w.heap.size w w':=by
 obtain⟨W1,hW1⟩:=words.nm (w.alloc (.cells (rawCells n r) 46));have hb1:=words.b1 hW1;have HX1:Hid (Box W1 w.heap.size n r):=by rw [hW1];exact hid (Box.new w n r)
 have HN:=hid (hN.later hb1);have HM:=hid (Jao hm hb1);have fit:=hN.fit;have f1:=fit.le;have f2:=fit.s1;have f3:=fit.s2;have f4:=fit.t;have f5:=fit.ln;have f6:=fit.li;have HB1:=hid hb1;unfold rawCells at hW1;have HW1:=hid hW1;clear hN fit hb1 hW1 hm;unfold ndV rawCells;by_cases k1:n.K=1
 ·have g1:(n.K==1)=true:=by rw [k1];rfl
  obtain⟨rt,hrt⟩:=words.nm (rightB n.S n.E);obtain⟨br,hbr⟩:=words.nm (bareB (.mk n.K n.O n.N n.I 0 [] n.T));have HO:=hid (show oneB n=(rt&&br) by
    rw [Jjd k1,hrt,hbr];show (noneB n&&n.T.size==0&&_)=(_&&(noneB n&&true&&n.T.size==0))
    cases noneB n<;>cases (n.T.size==0)<;>simp)
  have HRt:=hid hrt;have HBr:=hid hbr;clear k1 hrt hbr;go_enter func151,ntmps151
  go_wp2_with fail
  rw [←HW1.out];obtain⟨b0,b1,b2,b3,b4,b5,b6⟩:=HX1.out.cells;go_wp2_with fail
  refine (Jk4 rt n.S r.Ae r.ce n.E _ HN.out.exts (by omega) f2 f3 HRt.out.symm).mono ?_;rintro e w2 ⟨rfl,hb2⟩;have HB2:=hid (HB1.out.trans (hb2.mono HB1.out.size));have HX2:=hid (HX1.out.below hb2);have z4:w2.frozen? ⟨w.heap.size,4,none⟩=false:=Jab HX2.out 4;have z5:w2.frozen? ⟨w.heap.size,5,none⟩=false:=Jab HX2.out 5;have HBs:=hid ((HB2.out.setCell (p:=⟨w.heap.size,4,none⟩) (Nat.le_refl _) (.int .i64 0)).setCell (p:=⟨w.heap.size,5,none⟩) (Nat.le_refl _) (.slice none 0 0));clear hb2 b0 b1 b2 b3 b4 b5 b6 HX1;obtain⟨b0,b1,b2,b3,b4,b5,b6⟩:=HX2.out.cells;cases rt
  ·go_wp2_with fail
   go_ret
   exact⟨Jac (by rw [HO.out];rfl),HBs.out⟩
  ·go_wp2_with fail
   refine (Jh0 br (.mk n.K n.O n.N n.I 0 [] n.T) {r with Ae:=none,ce:=0} _ HBr.out.symm).mono ?_;rintro e w3 ⟨rfl,hb3⟩;have HB3:=hid (HBs.out.trans (hb3.mono HBs.out.size));clear hb3;go_wp2_with fail
   go_ret
   exact⟨Jac (by rw [HO.out,Bool.true_and]),HB3.out⟩
 have g1:(n.K==1)=false:=by rw [beq_eq_false_iff_ne];exact k1
 by_cases k2:n.K=2
 ·have g2:(n.K==2)=true:=by rw [k2];rfl
  obtain⟨br,hbr⟩:=words.nm (bareB (.mk n.K false [] [] n.S n.E n.T));obtain⟨rt,hrt⟩:=words.nm (riseB n.N);have HO:=hid (show oneB n=((n.N.length==n.I.length)&&rt&&br) by
    rw [Jhb k2,hrt,hbr];show (emptyB n&&n.T.size==0&&_)=(_&&(true&&emptyB n&&n.T.size==0))
    cases emptyB n<;>cases (n.T.size==0)<;>simp)
  have HRt:=hid hrt;have HBr:=hid hbr;have z1:W1.frozen? ⟨w.heap.size,1,none⟩=false:=Jab HX1.out 1;have z2:W1.frozen? ⟨w.heap.size,2,none⟩=false:=Jab HX1.out 2;have z3:W1.frozen? ⟨w.heap.size,3,none⟩=false:=Jab HX1.out 3;have HBs:=hid (((HB1.out.setCell (p:=⟨w.heap.size,1,none⟩) (Nat.le_refl _) (.bool false)).setCell (p:=⟨w.heap.size,2,none⟩) (Nat.le_refl _) (.slice none 0 0)).setCell (p:=⟨w.heap.size,3,none⟩) (Nat.le_refl _) (.slice none 0 0));clear k1 k2 hrt hbr;by_cases hlen:n.I.length=n.N.length
  ·have g0:((n.I.length:Int)==(n.N.length:Int))=true:=by rw [hlen];simp
   have HE:=hid (show (n.N.length==n.I.length)=true by rw [beq_iff_eq];exact hlen.symm);clear hlen;go_enter func151,ntmps151
   go_wp2_with fail
   rw [←HW1.out];obtain⟨b0,b1,b2,b3,b4,b5,b6⟩:=HX1.out.cells;go_wp2_with fail
   refine (Jrb rt r.An r.cn n.N _ HN.out.names (by omega) HRt.out.symm).mono ?_;rintro e w2 ⟨rfl,rfl⟩;cases rt
   ·go_wp2_with fail
    go_ret
    exact⟨Jac (by rw [HO.out,Bool.and_false,Bool.false_and]),HBs.out⟩
   ·go_wp2_with fail
    refine (Jh0 br (.mk n.K false [] [] n.S n.E n.T) {r with An:=none,cn:=0,Ai:=none,ci:=0} _ HBr.out.symm).mono ?_;rintro e w3 ⟨rfl,hb3⟩;have HB3:=hid (HBs.out.trans (hb3.mono HBs.out.size));clear hb3;go_wp2_with fail
    go_ret
    exact⟨Jac (by rw [HO.out,HE.out];rfl),HB3.out⟩
  ·have g0:((n.I.length:Int)==(n.N.length:Int))=false:=by rw [beq_eq_false_iff_ne];omega
   have HE:=hid (show (n.N.length==n.I.length)=false by rw [beq_eq_false_iff_ne];exact fun h=>hlen h.symm);clear hlen;go_enter func151,ntmps151
   go_wp2_with fail
   go_ret
   exact⟨Jac (by rw [HO.out,HE.out,Bool.false_and,Bool.false_and]),(Below.refl _ _).alloc (Nat.le_refl _) _⟩
 have g2:(n.K==2)=false:=by rw [beq_eq_false_iff_ne];exact k2
 by_cases k3:n.K=3
 ·have g3:(n.K==3)=true:=by rw [k3];rfl
  obtain⟨rt,hrt⟩:=words.nm (pathB n.T);obtain⟨br,hbr⟩:=words.nm (bareB (.mk n.K n.O n.N n.I n.S n.E ⟨#[]⟩));have HO:=hid (show oneB n=(rt&&br) by
    rw [Jhk k3,hrt,hbr];show (noneB n&&emptyB n&&_)=(_&&(noneB n&&emptyB n&&true))
    cases noneB n<;>cases emptyB n<;>simp)
  have HRt:=hid hrt;have HBr:=hid hbr;clear k1 k2 k3 hrt hbr;go_enter func151,ntmps151
  go_wp2_with fail
  rw [←HW1.out];obtain⟨b0,b1,b2,b3,b4,b5,b6⟩:=HX1.out.cells;go_wp2_with fail
  refine (Jqx rt n.T m _ f4 HM.out HRt.out.symm).mono ?_;rintro e w2 ⟨rfl,hb2⟩;have HB2:=hid (HB1.out.trans (hb2.mono HB1.out.size));have HX2:=hid (HX1.out.below hb2);have z6:w2.frozen? ⟨w.heap.size,6,none⟩=false:=Jab HX2.out 6;have HBs:=hid (HB2.out.setCell (p:=⟨w.heap.size,6,none⟩) (Nat.le_refl _) (.string ⟨#[]⟩));clear hb2 b0 b1 b2 b3 b4 b5 b6 HX1;obtain⟨b0,b1,b2,b3,b4,b5,b6⟩:=HX2.out.cells;cases rt
  ·go_wp2_with fail
   go_ret
   exact⟨Jac (by rw [HO.out];rfl),HBs.out⟩
  ·go_wp2_with fail
   refine (Jh0 br (.mk n.K n.O n.N n.I n.S n.E ⟨#[]⟩) r _ HBr.out.symm).mono ?_;rintro e w3 ⟨rfl,hb3⟩;have HB3:=hid (HBs.out.trans (hb3.mono HBs.out.size));clear hb3;go_wp2_with fail
   go_ret
   exact⟨Jac (by rw [HO.out,Bool.true_and]),HB3.out⟩
 have g3:(n.K==3)=false:=by rw [beq_eq_false_iff_ne];exact k3
 by_cases k4:n.K=4
 ·have g4:(n.K==4)=true:=by rw [k4];rfl
  obtain⟨br,hbr⟩:=words.nm (bareB n);have HO:=hid (show oneB n=br by rw [Jkk k4,hbr];rfl);have HBr:=hid hbr;clear k1 k2 k3 k4 hbr;go_enter func151,ntmps151
  go_wp2_with fail
  rw [←HW1.out];obtain⟨b0,b1,b2,b3,b4,b5,b6⟩:=HX1.out.cells;go_wp2_with fail
  refine (Jh0 br n r _ HBr.out.symm).mono ?_;rintro e w3 ⟨rfl,hb3⟩;have HB3:=hid (HB1.out.trans (hb3.mono HB1.out.size));clear hb3;go_wp2_with fail
  go_ret
  exact⟨Jac HO.out.symm,HB3.out⟩
 have g4:(n.K==4)=false:=by rw [beq_eq_false_iff_ne];exact k4
 have HF:=hid (show false=oneB n by rw [Ji5 k1 k2 k3 k4]);clear k1 k2 k3 k4;go_enter func151,ntmps151
 go_wp2_with fail
 go_ret
 exact⟨Jac HF.out,(Below.refl _ _).alloc (Nat.le_refl _) _⟩

theorem Jtf (b:Bool) (n:Nd) (r:Raw) (m:Int) (w:World) (hN:NdAt w w.heap.size n r) (hm:w.cell? ⟨1,0,none⟩=some (.int .i64 m)) (hb:oneB n=b):
  Calls prog 151 #[ndV n r] w fun e w'=>e= .returned (.bool b)∧Below w.heap.size w w':=
 (Jsa n r m w hN hm).mono fun _ _ ⟨he,hw⟩=>⟨by rw [he,hb],hw⟩

theorem Jfo (w:World) (o o':Obj):((w.alloc o).alloc o').heap[w.heap.size+1]?=some o':=by
 have h:=heap_alloc_new (w.alloc o) o';rw [show (w.alloc o).heap.size=w.heap.size+1 by simp] at h;exact h
theorem Jlv {W0:World} {m:Int} {bl:Nat} (hm:W0.cell? ⟨1,0,none⟩=some (.int .i64 m)) (hbl:W0.heap.size≤bl):
  Asker W0 150 #[.pointer (some ⟨bl,0,none⟩)] (some bl) (fun c w=>Cnt w bl c) stR:=by
 refine⟨enters_of func150 (by kernel_rfl) rfl,?_,fun c w w' h hg=>(hg.block bl h.lt (by simp)).trans h,fun c w b h hb=>by injection hb with hb;subst hb;exact⟨hbl,h.lt⟩⟩;intro n r d c w hN hb hc hd1 hd2;have HN:=hid hN;have HB:=hid hb;obtain⟨W1,hW1⟩:=words.nm (w.alloc (.cells (rawCells n r) 46));have HX1:Hid (Box W1 w.heap.size n r):=by rw [hW1];exact hid (Box.new w n r)
 have HC1:Hid (Cnt W1 bl c):=by rw [hW1];exact hid (hc.alloc _)
 have HG1:Hid (w.grownBy W1 (some bl)):=by rw [hW1];exact hid (Jbb _ _ _)
 have HB1:Hid (Below W0.heap.size W0 W1):=by rw [hW1];exact hid (hb.alloc hb.size _)
 have hne:w.heap.size≠bl:=by have:=hc.lt;omega
 have hne':bl≠w.heap.size:=fun e=>hne e.symm;unfold rawCells at hW1;have HW1:=hid hW1;obtain⟨c1,hc1⟩:=words.nm (wrap64 (c+1));have hw:=hc1.symm;obtain⟨W2,hW2⟩:=words.nm (W1.setCell ⟨bl,0,none⟩ (.int .i64 c1));have HX2:Hid (Box W2 w.heap.size n r):=by rw [hW2];exact hid (HX1.out.grown (Ja1 _ _ _) (fun e=>hne (by injection e)))
 have HC2:Hid (Cnt W2 bl c1):=by rw [hW2];exact hid (HC1.out.set_ _)
 have HG2:Hid (w.grownBy W2 (some bl)):=by rw [hW2];exact hid (Jae HG1.out (Ja1 _ _ _))
 have HB2:Hid (Below W0.heap.size W0 W2):=by rw [hW2];exact hid (below_grown HB1.out (Nat.le_refl _) (Ja1 _ _ _) hbl)
 have HW2:=hid hW2;have HM2:=hid (Jao hm HB2.out);have HN2:=hid (hN.later HB2.out);have HS:=hid (show stR n d c=(decide (c1≤4096)&&decide (d≤15)&&oneB n,c1) by unfold stR;rw [←hc1]);obtain⟨ob,hob⟩:=words.nm (oneB n);have HOb:=hid hob;clear hN hb hc hm hW1 hW2 hc1 hob;unfold ndV rawCells;go_enter func150,ntmps150
 go_upto_region 1 with fail
 rw [←HW1.out];have hfz:=HC1.out.free;have hcl:=HC1.out.cell;obtain⟨b0,b1,b2,b3,b4,b5,b6⟩:=HX1.out.cells;go_upto_region 2 with fail
 rw [←HW2.out];clear b0 b1 b2 b3 b4 b5 b6 hfz hcl hw;have hcl:=HC2.out.cell;obtain⟨b0,b1,b2,b3,b4,b5,b6⟩:=HX2.out.cells;by_cases h1:c1≤4096
 ·by_cases h2:d≤15
  ·have g1:decide (c1≤4096)=true:=decide_eq_true h1
   have g2:decide (d≤15)=true:=decide_eq_true h2;have HF:=hid (show stR n d c=(ob,c1) by rw [HS.out,g1,g2,←HOb.out];rfl);clear h1 h2;go_wp2_with fail
   refine (Jtf ob n r m _ HN2.out HM2.out HOb.out.symm).mono ?_;rintro e w3 ⟨rfl,hb3⟩;have HC3:=hid (HC2.out.below hb3);have HG3:=hid (Jae HG2.out (Jan hb3 _));clear hb3;go_wp2_with fail
   go_ret
   exact⟨Jbk HF.out,Jcl HF.out HC3.out,HG3.out⟩
  ·have g1:decide (c1≤4096)=true:=decide_eq_true h1
   have g2:decide (d≤15)=false:=decide_eq_false h2;have HF:=hid (show stR n d c=(false,c1) by rw [HS.out,g1,g2];rfl);clear h1 h2;go_wp2_with fail
   go_ret
   exact⟨Jbk HF.out,Jcl HF.out HC2.out,HG2.out⟩
 ·have g1:decide (c1≤4096)=false:=decide_eq_false h1
  have HF:=hid (show stR n d c=(false,c1) by rw [HS.out,g1];rfl);clear h1;go_wp2_with fail
  go_ret
  exact⟨Jbk HF.out,Jcl HF.out HC2.out,HG2.out⟩
theorem Jle {W0:World} {bl:Nat} (hbl:W0.heap.size≤bl):
  Asker W0 152 #[.pointer (some ⟨bl,0,none⟩)] (some bl) (fun c w=>Cnt w bl c) stC:=by
 refine⟨enters_of func152 (by kernel_rfl) rfl,?_,fun c w w' h hg=>(hg.block bl h.lt (by simp)).trans h,fun c w b h hb=>by injection hb with hb;subst hb;exact⟨hbl,h.lt⟩⟩;intro n r d c w hN hb hc hd1 hd2;obtain⟨W1,hW1⟩:=words.nm (w.alloc (.cells (rawCells n r) 46));have HC1:Hid (Cnt W1 bl c):=by rw [hW1];exact hid (hc.alloc _)
 have HG1:Hid (w.grownBy W1 (some bl)):=by rw [hW1];exact hid (Jbb _ _ _)
 have hne:w.heap.size≠bl:=by have:=hc.lt;omega
 have hne':bl≠w.heap.size:=fun e=>hne e.symm;unfold rawCells at hW1;have HW1:=hid hW1;obtain⟨c1,hc1⟩:=words.nm (wrap64 (c+1));have hw:=hc1.symm;have HC2:=hid (HC1.out.set_ c1);have HG2:=hid (Jae HG1.out (Ja1 W1 bl (.int .i64 c1)));have HS:=hid (show stC n d c=(decide (d≤65536),c1) by unfold stC;rw [←hc1]);clear hN hb hc hW1 hc1;unfold ndV rawCells;go_enter func152,ntmps152
 go_upto_region 1 with fail
 rw [←HW1.out];have hfz:=HC1.out.free;have hcl:=HC1.out.cell;by_cases h1:d≤65536
 ·have g1:decide (d≤65536)=true:=decide_eq_true h1
  have HF:=hid (show stC n d c=(true,c1) by rw [HS.out,g1]);clear h1;go_wp2_with fail
  go_ret
  exact⟨Jbk HF.out,Jcl HF.out HC2.out,HG2.out⟩
 ·have g1:decide (d≤65536)=false:=decide_eq_false h1
  have HF:=hid (show stC n d c=(false,c1) by rw [HS.out,g1]);clear h1;go_wp2_with fail
  go_ret
  exact⟨Jbk HF.out,Jcl HF.out HC2.out,HG2.out⟩
theorem Jeq (n:Nd) (r:Raw) (m:Int) (w:World) (hN:NdAt w w.heap.size n r) (hm:w.cell? ⟨1,0,none⟩=some (.int .i64 m)) (hd:depth n≤1000):
  Calls prog 117 #[ndV n r] w fun e w'=>e= .returned (.bool (treeB n))∧Below w.heap.size w w':=by
 obtain⟨W1,hW1⟩:=words.nm ((w.alloc (.cells (rawCells n r) 46)).alloc (.cells #[.int .i64 0] 3));have hb1:Below w.heap.size w W1:=by rw [hW1];exact ((Below.refl _ _).alloc (Nat.le_refl _) _).alloc (by simp) _
 have HX1:Hid (Box W1 w.heap.size n r):=by rw [hW1];exact hid ((Box.new w n r).alloc _)
 have hc1:Cnt W1 (w.heap.size+1) 0:=by
  rw [hW1];exact Jfo _ _ _
 have HI:=hid (Jr4 (Jlv (bl:=w.heap.size+1) hm (by omega)) (depth n+1) n r 0 0 W1 (by omega) hN hb1 hc1 (by omega) (by omega));have HB1:=hid hb1;unfold rawCells at hW1;have HW1:=hid hW1;unfold ndV rawCells at HI;clear hN hm hb1 hc1 hW1;unfold ndV rawCells;by_cases k2:n.K=2
 ·have g2:(n.K==2)=true:=by rw [k2];rfl
  obtain⟨p1,hp1⟩:=words.nm ((eachS stR n 0 0).1);rw [←hp1] at HI;have HF:=hid (show p1=treeB n by unfold treeB;rw [g2,←hp1,Bool.true_and]);clear k2 hp1;go_enter func117,ntmps117
  go_upto_region 2 with fail
  rw [←HW1.out];obtain⟨b0,b1,b2,b3,b4,b5,b6⟩:=HX1.out.cells;go_wp2_with fail
  refine HI.out.mono ?_;rintro e w2 ⟨rfl,_,hg2⟩;have HB2:=hid (below_grown HB1.out (Nat.le_refl _) hg2 (by omega));clear hg2 HI;go_wp2_with fail
  go_ret
  exact⟨Jac HF.out,HB2.out⟩
 ·have g2:(n.K==2)=false:=by rw [beq_eq_false_iff_ne];exact k2
  have HF:=hid (show false=treeB n by unfold treeB;rw [g2,Bool.false_and]);clear k2;go_enter func117,ntmps117
  go_upto_region 2 with fail
  rw [←HW1.out];obtain⟨b0,b1,b2,b3,b4,b5,b6⟩:=HX1.out.cells;go_wp2_with fail
  go_ret
  exact⟨Jac HF.out,HB1.out⟩

def countC (n:Nd):Int:=(eachS stC n 0 0).2
theorem Jh2 (n:Nd) (r:Raw) (w:World) (hN:NdAt w w.heap.size n r) (hd:depth n≤1000):
  Calls prog 118 #[ndV n r] w fun e w'=>e= .returned (.int .i64 (countC n))∧Below w.heap.size w w':=by
 obtain⟨W1,hW1⟩:=words.nm ((w.alloc (.cells (rawCells n r) 46)).alloc (.cells #[.int .i64 0] 3));have hb1:Below w.heap.size w W1:=by rw [hW1];exact ((Below.refl _ _).alloc (Nat.le_refl _) _).alloc (by simp) _
 have HX1:Hid (Box W1 w.heap.size n r):=by rw [hW1];exact hid ((Box.new w n r).alloc _)
 have hc1:Cnt W1 (w.heap.size+1) 0:=by
  rw [hW1];exact Jfo _ _ _
 have HI:=hid (Jr4 (Jle (W0:=w) (bl:=w.heap.size+1) (by omega)) (depth n+1) n r 0 0 W1 (by omega) hN hb1 hc1 (by omega) (by omega));have HB1:=hid hb1;unfold rawCells at hW1;have HW1:=hid hW1;unfold ndV rawCells at HI;clear hN hb1 hc1 hW1;unfold ndV rawCells;go_enter func118,ntmps118
 go_upto_region 2 with fail
 rw [←HW1.out];obtain⟨b0,b1,b2,b3,b4,b5,b6⟩:=HX1.out.cells;go_wp2_with fail
 refine HI.out.mono ?_;rintro e w2 ⟨rfl,hc2,hg2⟩;have HB2:=hid (below_grown HB1.out (Nat.le_refl _) hg2 (by omega));have k0:=Cnt.cell (show Cnt w2 (w.heap.size+1) (countC n) from hc2);clear hg2 hc2 HI;go_wp2_with fail
 go_ret
 exact⟨rfl,HB2.out⟩


theorem Jx9 (b:Bool) (n:Nd) (r:Raw) (w:World) (hN:NdAt w w.heap.size n r) (hb:oneB n=b):Calls prog 69 #[ndV n r] w fun e w'=>e= .returned (.bool b)∧Below w.heap.size w w':=
 (Jss n r w hN).mono fun _ _ ⟨he,hw⟩=>⟨by rw [he,hb],hw⟩
theorem wrap_add (a b:Int):wrap64 (wrap64 a+wrap64 b)=wrap64 (a+b):=by unfold wrap64;omega
theorem Jd7:∀L M:List Nd,countL (L++M)=countL L+countL M
 |[],M=>by rw [List.nil_append,Jaj,Nat.zero_add]
 |x::L,M=>by rw [List.cons_append,Jaf,Jaf,Jd7 L M,Nat.add_assoc]
theorem Jen:∀L M:List Nd,depthL (L++M)=max (depthL L) (depthL M)
 |[],M=>by rw [List.nil_append,Jaq,Nat.zero_max]
 |x::L,M=>by rw [List.cons_append,Jal,Jal,Jen L M,Nat.max_assoc]
theorem Jl2 {L:List Nd} {k:Nat} {x:Nd} (h:L[k]?=some x):countL (L.take (k+1))=countL (L.take k)+count x:=by
 rw [take_at h,Jd7,Jaf,Jaj];rfl
theorem Jlp {L:List Nd} {k:Nat} {x:Nd} (h:L[k]?=some x):depthL (L.take (k+1))=max (depthL (L.take k)) (depth x+1):=by
 rw [take_at h,Jen,Jal,Jaq,Nat.max_zero]
theorem Jyg (W0:World):∀(k:Nat) (n:Nd) (r:Raw) (w:World),depth n<k→NdAt W0 W0.heap.size n r→Below W0.heap.size W0 w→
  Calls prog 39 #[ndV n r] w fun e w'=>e= .returned (.bool (allB n))∧Below w.heap.size w w':=by
 intro k
 induction k with
 |zero=>intro n r w hk;omega
 |succ k ih=>
  intro n r w hk hN hb;have IH:=hid ih;have f4:=hN.fit.li;have HN:=hid hN;have HB:=hid hb;obtain⟨W1,hW1⟩:=words.nm (w.alloc (.cells (rawCells n r) 46));have HX1:Hid (Box W1 w.heap.size n r):=by rw [hW1];exact hid (Box.new w n r)
  have HB1:Hid (Below w.heap.size w W1):=by rw [hW1];exact hid ((Below.refl _ _).alloc (Nat.le_refl _) _)
  unfold rawCells at hW1;have HW1:=hid hW1;have HS:=hid (Jcc n);clear hN hb hW1 ih;unfold ndV rawCells;go_enter func39,ntmps39
  go_upto_region 1 with fail
  rw [←HW1.out];go_wp2_with fail
  go_loopw [3] (fun v wr=>∃(j:Nat),j≤n.I.length∧v= .int .i64 j∧Hid (allL n.I=allL (n.I.drop j))∧Below W1.heap.size W1 wr)
   (fun v _=>n.I.length - (intOf v).toNat)
  case atStart=>exact⟨0,Nat.zero_le _,rfl,hid rfl,Below.refl _ _⟩
  case round=>
   obtain⟨j,hj,rfl,HL,hbw⟩:=hrel;have HBr:=hid hbw;have HX:=hid (HX1.out.below hbw);have HBw:=hid (HB.out.trans (HB1.out.trans (hbw.mono HB1.out.size) |>.mono HB.out.size));clear hbw;obtain⟨b0,b1,b2,b3,b4,b5,b6⟩:=HX.out.cells;by_cases hlt:j<n.I.length
   ·obtain⟨x,hx⟩:∃x,n.I[j]?=some x:=⟨_,List.getElem?_eq_getElem hlt⟩
    obtain⟨r',hr',b,off,hAi,hB,c0,c1,c2,c3,c4,c5,c6⟩:=HN.out.entry hx HBw.out;have hdx:depth x<k:=by have:=Jbv hx;have:=Jah n;omega
    obtain⟨q1,hq1⟩:=words.nm (allB x);have HLX:=hid (show allL (n.I.drop j)=(q1&&allL (n.I.drop (j+1))) by rw [drop_at hx,Jbh,←hq1]);have HI:=hid (IH.out x r' wr hdx hr' HBw.out);rw [←hq1] at HI;unfold ndV rawCells at HI;rw [hAi] at b3;have i0:(0:Int)≤(j:Int):=by omega
    clear hx hr' hq1 hAi;go_wp2_with fail
    refine HI.out.mono ?_;rintro e w5 ⟨rfl,hb5⟩;have HB5:=hid (HBr.out.trans (hb5.mono HBr.out.size));clear hb5 HI b0 b1 b2 b3 b4 b5 b6 c0 c1 c2 c3 c4 c5 c6;cases q1
    ·have HF:=hid (show false=allB n by rw [HS.out,HL.out,HLX.out];rfl)
     go_wp2_with fail
     go_ret
     exact⟨Jac HF.out,HB1.out.trans (HB5.out.mono HB1.out.size)⟩
    ·have HN2:=hid (show allL n.I=allL (n.I.drop (j+1)) by rw [HL.out,HLX.out,Bool.true_and])
     go_wp2_with fail
     go_roundw
     case rel=>exact⟨j+1,by omega,by go_num,HN2,HB5.out⟩
     case measure=>simp [intOf];omega
   ·obtain⟨ob,hob⟩:=words.nm (oneB n)
    have HF:=hid (show ob=allB n by rw [HS.out,HL.out,List.drop_of_length_le (by omega),Jnm,Bool.true_and,hob]);have HI:=hid (Jx9 ob n r wr ((HN.out.later HBw.out)) hob.symm);unfold ndV rawCells at HI;clear hob;go_wp2_with fail
    refine HI.out.mono ?_;rintro e w5 ⟨rfl,hb5⟩;have HB5:=hid (HBr.out.trans (hb5.mono HBr.out.size));clear hb5 HI;go_wp2_with fail
    go_ret
    exact⟨Jac HF.out,HB1.out.trans (HB5.out.mono HB1.out.size)⟩

theorem Jqd {a b:Int} (h:a=b):Ending.returned (.int .i64 a)= .returned (.int .i64 b):=by rw [h]
theorem Jl1 (W0:World):∀(k:Nat) (n:Nd) (r:Raw) (w:World),depth n<k→NdAt W0 W0.heap.size n r→Below W0.heap.size W0 w→
  Calls prog 40 #[ndV n r] w fun e w'=>e= .returned (.int .i64 (wrap64 (count n:Int)))∧Below w.heap.size w w':=by
 intro k
 induction k with
 |zero=>intro n r w hk;omega
 |succ k ih=>
  intro n r w hk hN hb;have IH:=hid ih;have f4:=hN.fit.li;have HN:=hid hN;have HB:=hid hb;obtain⟨W1,hW1⟩:=words.nm (w.alloc (.cells (rawCells n r) 46));have HX1:Hid (Box W1 w.heap.size n r):=by rw [hW1];exact hid (Box.new w n r)
  have HB1:Hid (Below w.heap.size w W1):=by rw [hW1];exact hid ((Below.refl _ _).alloc (Nat.le_refl _) _)
  unfold rawCells at hW1;have HW1:=hid hW1;have HS:=hid (Jar n);clear hN hb hW1 ih;unfold ndV rawCells;go_enter func40,ntmps40
  go_upto_region 1 with fail
  rw [←HW1.out];go_wp2_with fail
  go_loopw [3,4] (fun s v wr=>∃(j:Nat) (kk:Int),j≤n.I.length∧v= .int .i64 j∧s= .int .i64 kk∧Hid (kk=wrap64 ((1+countL (n.I.take j):Nat):Int))∧Below W1.heap.size W1 wr)
   (fun _ v _=>n.I.length - (intOf v).toNat)
  case atStart=>exact⟨0,1,Nat.zero_le _,rfl,rfl,hid (by rw [List.take_zero,Jaj];decide+kernel),Below.refl _ _⟩
  case round=>
   obtain⟨j,kk,hj,rfl,rfl,HL,hbw⟩:=hrel;have HBr:=hid hbw;have HX:=hid (HX1.out.below hbw);have HBw:=hid (HB.out.trans (HB1.out.trans (hbw.mono HB1.out.size) |>.mono HB.out.size));clear hbw;obtain⟨b0,b1,b2,b3,b4,b5,b6⟩:=HX.out.cells;by_cases hlt:j<n.I.length
   ·obtain⟨x,hx⟩:∃x,n.I[j]?=some x:=⟨_,List.getElem?_eq_getElem hlt⟩
    obtain⟨r',hr',b,off,hAi,hB,c0,c1,c2,c3,c4,c5,c6⟩:=HN.out.entry hx HBw.out;have hdx:depth x<k:=by have:=Jbv hx;have:=Jah n;omega
    obtain⟨q1,hq1⟩:=words.nm (wrap64 (count x:Int));have HLX:=hid (show wrap64 (kk+q1)=wrap64 ((1+countL (n.I.take (j+1)):Nat):Int) by
      rw [HL.out,hq1,wrap_add,Jl2 hx];congr 1;omega)
    have HI:=hid (IH.out x r' wr hdx hr' HBw.out);rw [←hq1] at HI;unfold ndV rawCells at HI;rw [hAi] at b3;have i0:(0:Int)≤(j:Int):=by omega
    clear hx hr' hq1 hAi;go_wp2_with fail
    refine HI.out.mono ?_;rintro e w5 ⟨rfl,hb5⟩;have HB5:=hid (HBr.out.trans (hb5.mono HBr.out.size));clear hb5 HI b0 b1 b2 b3 b4 b5 b6 c0 c1 c2 c3 c4 c5 c6;go_wp2_with fail
    go_roundw
    case rel=>exact⟨j+1,_,by omega,by go_num,rfl,HLX,HB5.out⟩
    case measure=>simp [intOf];omega
   ·have HF:=hid (show kk=wrap64 (count n:Int) by rw [HL.out,HS.out,List.take_of_length_le (by omega)])
    go_wp2_with fail
    go_ret
    exact⟨Jqd HF.out,HB1.out.trans (HBr.out.mono HB1.out.size)⟩
theorem Jk8 (W0:World):∀(k:Nat) (n:Nd) (r:Raw) (w:World),depth n<k→k≤10000→NdAt W0 W0.heap.size n r→Below W0.heap.size W0 w→
  Calls prog 41 #[ndV n r] w fun e w'=>e= .returned (.int .i64 (depth n:Int))∧Below w.heap.size w w':=by
 intro k
 induction k with
 |zero=>intro n r w hk;omega
 |succ k ih=>
  intro n r w hk hk2 hN hb;have IH:=hid ih;have f4:=hN.fit.li;have HN:=hid hN;have HB:=hid hb;obtain⟨W1,hW1⟩:=words.nm (w.alloc (.cells (rawCells n r) 46));have HX1:Hid (Box W1 w.heap.size n r):=by rw [hW1];exact hid (Box.new w n r)
  have HB1:Hid (Below w.heap.size w W1):=by rw [hW1];exact hid ((Below.refl _ _).alloc (Nat.le_refl _) _)
  unfold rawCells at hW1;have HW1:=hid hW1;have HS:=hid (Jah n);clear hN hb hW1 ih;unfold ndV rawCells;go_enter func41,ntmps41
  go_upto_region 1 with fail
  rw [←HW1.out];go_wp2_with fail
  go_loopw [3,4] (fun s v wr=>∃(j dd:Nat),j≤n.I.length∧v= .int .i64 j∧s= .int .i64 dd∧Hid (dd=depthL (n.I.take j))∧dd≤k∧Below W1.heap.size W1 wr)
   (fun _ v _=>n.I.length - (intOf v).toNat)
  case atStart=>exact⟨0,0,Nat.zero_le _,rfl,rfl,hid (by rw [List.take_zero,Jaq]),Nat.zero_le _,Below.refl _ _⟩
  case round=>
   obtain⟨j,dd,hj,rfl,rfl,HL,hdd,hbw⟩:=hrel;have HBr:=hid hbw;have HX:=hid (HX1.out.below hbw);have HBw:=hid (HB.out.trans (HB1.out.trans (hbw.mono HB1.out.size) |>.mono HB.out.size));clear hbw;obtain⟨b0,b1,b2,b3,b4,b5,b6⟩:=HX.out.cells;by_cases hlt:j<n.I.length
   ·obtain⟨x,hx⟩:∃x,n.I[j]?=some x:=⟨_,List.getElem?_eq_getElem hlt⟩
    obtain⟨r',hr',b,off,hAi,hB,c0,c1,c2,c3,c4,c5,c6⟩:=HN.out.entry hx HBw.out;have hdx:depth x<k:=by have:=Jbv hx;have:=Jah n;omega
    obtain⟨q1,hq1⟩:=words.nm (depth x);have HLX:=hid (show depthL (n.I.take (j+1))=max dd (q1+1) by rw [Jlp hx,HL.out,hq1]);have hq2:q1<k:=by rw [hq1];exact hdx
    have HI:=hid (IH.out x r' wr hdx (by omega) hr' HBw.out);rw [←hq1] at HI;unfold ndV rawCells at HI;rw [hAi] at b3;have i0:(0:Int)≤(j:Int):=by omega
    clear hx hr' hq1 hAi;go_wp2_with fail
    refine HI.out.mono ?_;rintro e w5 ⟨rfl,hb5⟩;have HB5:=hid (HBr.out.trans (hb5.mono HBr.out.size));clear hb5 HI b0 b1 b2 b3 b4 b5 b6 c0 c1 c2 c3 c4 c5 c6;by_cases hg:dd<q1+1
    ·have g1:(dd:Int)<(q1:Int)+1:=by omega
     have HN2:=hid (show q1+1=depthL (n.I.take (j+1)) by rw [HLX.out];omega);go_wp2_with fail
     go_roundw
     case rel=>exact⟨j+1,q1+1,by omega,by go_num,by go_num,HN2,by omega,HB5.out⟩
     case measure=>simp [intOf];omega
    ·have g1:¬(dd:Int)<(q1:Int)+1:=by omega
     have HN2:=hid (show dd=depthL (n.I.take (j+1)) by rw [HLX.out];omega);go_wp2_with fail
     go_roundw
     case rel=>exact⟨j+1,dd,by omega,by go_num,rfl,HN2,by omega,HB5.out⟩
     case measure=>simp [intOf];omega
   ·have HF:=hid (show (dd:Int)=(depth n:Int) by rw [HS.out,HL.out,List.take_of_length_le (by omega)])
    go_wp2_with fail
    go_ret
    exact⟨Jqd HF.out,HB1.out.trans (HBr.out.mono HB1.out.size)⟩
theorem Jb9 (n:Nd) (r:Raw) (w:World) (hN:NdAt w w.heap.size n r) (hd:depth n≤1000):
  Calls prog 18 #[ndV n r] w fun e w'=>e= .returned (.bool (refB n))∧Below w.heap.size w w':=by
 obtain⟨W1,hW1⟩:=words.nm (w.alloc (.cells (rawCells n r) 46));have hb1:=words.b1 hW1;have HX1:Hid (Box W1 w.heap.size n r):=by rw [hW1];exact hid (Box.new w n r)
 have HB1:=hid hb1;have HN:=hid hN;unfold rawCells at hW1;have HW1:=hid hW1;clear hN hb1 hW1;unfold ndV rawCells;by_cases k2:n.K=2
 ·have g2:(n.K==2)=true:=by rw [k2];rfl
  obtain⟨ab,hab⟩:=words.nm (allB n);have HAb:=hid hab;have HR:=hid (show refB n=(ab&&decide (wrap64 (count n:Int)≤4096)&&decide (depth n≤15)) by unfold refB;rw [g2,hab,Bool.true_and]);have HA:=hid (Jyg w (depth n+1) n r W1 (by omega) HN.out HB1.out);rw [←hab] at HA;unfold ndV rawCells at HA;obtain⟨cn,hcn⟩:=words.nm (wrap64 (count n:Int));have HCn:=hid hcn;rw [←hcn] at HR;obtain⟨dn,hdn⟩:=words.nm (depth n);have HDn:=hid hdn;rw [←hdn] at HR;clear k2 hab hcn;go_enter func18,ntmps18
  go_upto_region 1 with fail
  rw [←HW1.out];obtain⟨b0,b1,b2,b3,b4,b5,b6⟩:=HX1.out.cells;have HD0:=hid hdn;clear hdn;go_wp2_with fail
  refine HA.out.mono ?_;rintro e w2 ⟨rfl,hb2⟩;have HB2:=hid (HB1.out.trans (hb2.mono HB1.out.size));have HX2:=hid (HX1.out.below hb2);clear hb2 HA b0 b1 b2 b3 b4 b5 b6;cases ab
  ·go_wp2_with fail
   go_ret
   exact⟨Jac (by rw [HR.out];rfl),HB2.out⟩
  ·obtain⟨b0,b1,b2,b3,b4,b5,b6⟩:=HX2.out.cells
   have HC:=hid (Jl1 w (depth n+1) n r w2 (by omega) HN.out HB2.out);rw [←HCn.out] at HC;unfold ndV rawCells at HC;go_wp2_with fail
   refine HC.out.mono ?_;rintro e w3 ⟨rfl,hb3⟩;have HB3:=hid (HB2.out.trans (hb3.mono HB2.out.size));have HX3:=hid (HX2.out.below hb3);clear hb3 HC b0 b1 b2 b3 b4 b5 b6;by_cases h1:cn≤4096
   ·have g1:decide (cn≤4096)=true:=decide_eq_true h1
    obtain⟨b0,b1,b2,b3,b4,b5,b6⟩:=HX3.out.cells;have HD:=hid (Jk8 w (depth n+1) n r w3 (by omega) (by omega) HN.out HB3.out);rw [←HDn.out] at HD;unfold ndV rawCells at HD;clear h1;go_wp2_with fail
    refine HD.out.mono ?_;rintro e w4 ⟨rfl,hb4⟩;have HB4:=hid (HB3.out.trans (hb4.mono HB3.out.size));clear hb4 HD b0 b1 b2 b3 b4 b5 b6;by_cases h2:dn≤15
    ·have g2':(dn:Int)≤15:=by omega
     go_wp2_with fail
     go_ret
     exact⟨Jac (by rw [HR.out,g1,decide_eq_true h2];first |(simp;done) |(simp;omega)),HB4.out⟩
    ·have g2':¬(dn:Int)≤15:=by omega
     go_wp2_with fail
     go_ret
     exact⟨Jac (by rw [HR.out,g1,decide_eq_false (by omega)];first |(simp;done) |(simp;omega)),HB4.out⟩
   ·have g1:decide (cn≤4096)=false:=decide_eq_false h1
    clear h1;go_wp2_with fail
    go_ret
    exact⟨Jac (by rw [HR.out,g1];rfl),HB3.out⟩
 ·have g2:(n.K==2)=false:=by rw [beq_eq_false_iff_ne];exact k2
  have HF:=hid (show false=refB n by unfold refB;rw [g2,Bool.false_and,Bool.false_and,Bool.false_and]);clear k2;go_enter func18,ntmps18
  go_wp2_with fail
  go_ret
  exact⟨Jac HF.out,(Below.refl _ _).alloc (Nat.le_refl _) _⟩
theorem Jo8 (n:Nd) (r:Raw) (w:World) (hN:NdAt w w.heap.size n r):
  Calls prog 17 #[ndV n r] w fun e w'=>e= .returned (.int .i64 (if smallB n=true then 1 else 0))∧Below w.heap.size w w':=by
 obtain⟨W1,hW1⟩:=words.nm ((w.alloc (.cells (rawCells n r) 46)).alloc (.cells #[.int .i64 400] 3));have hb1:Below w.heap.size w W1:=by rw [hW1];exact ((Below.refl _ _).alloc (Nat.le_refl _) _).alloc (by simp) _
 have HX1:Hid (Box W1 w.heap.size n r):=by rw [hW1];exact hid ((Box.new w n r).alloc _)
 have hc1:Cnt W1 (w.heap.size+1) 400:=by rw [hW1];exact Jfo _ _ _
 have HI:=hid (Jtr w (depth n+1) n r 30 400 (w.heap.size+1) W1 (by omega) hN hb1 (by omega) hc1 (by omega) (by omega) (by omega) (by omega));obtain⟨sb,hsb⟩:=words.nm (smallB n);rw [show (smallS n 30 400).1=sb from hsb.symm] at HI;rw [←hsb];have HB1:=hid hb1;unfold rawCells at hW1;have HW1:=hid hW1;unfold ndV rawCells at HI;clear hN hb1 hc1 hW1 hsb;unfold ndV rawCells;go_enter func17,ntmps17
 go_upto_region 2 with fail
 rw [←HW1.out];obtain⟨b0,b1,b2,b3,b4,b5,b6⟩:=HX1.out.cells;go_wp2_with fail
 refine HI.out.mono ?_;rintro e w2 ⟨rfl,_,hg2⟩;have HB2:=hid (below_grown HB1.out (Nat.le_refl _) hg2 (by omega));clear hg2 HI;cases sb
 ·go_wp2_with fail
  go_ret
  exact⟨rfl,HB2.out⟩
 ·go_wp2_with fail
  go_ret
  exact⟨rfl,HB2.out⟩

mutual
theorem Jgc:∀(n:Nd) (d l:Int),(smallS n d l).1=true→(depth n:Int)≤d
 | .mk K O N I S E T,d,l,h=>by
  rw [Jcs] at h;split at h
  ·cases h
  ·rename_i hc
   rw [Jah];have:=Je7 I (d - 1) _ h (by omega);show (depthL I:Int)≤d;omega
theorem Je7:∀(L:List Nd) (d l:Int),(smallL L d l).1=true→ -1≤d→(depthL L:Int)≤d+1
 |[],d,l,_,hd=>by rw [Jaq];omega
 |x::L,d,l,h,hd=>by
  rw [Jbr] at h;split at h
  ·rename_i hx
   have h1:=Jgc x d l hx;have h2:=Je7 L d _ h hd;rw [Jal];omega
  ·cases h
end
theorem Jfc {n:Nd} (h:smallB n=true):depth n≤30:=by
 have:=Jgc n 30 400 h;omega

def total:List Ex→Nat
 |[]=>0
 |x::L=>x.D.size+total L
theorem Jmx:∀(L:List Ex) (size e:Int),rightFrom size e L=true→0≤e→e≤size→e+(total L:Int)≤size∧L.length≤total L
 |[],size,e,_,_,h=>by simp [total];exact h
 |x::L,size,e,h,h0,h1=>by
  rw [Jbe,Bool.and_eq_true] at h;have hf:=of_decide_eq_true h.1;have:=Jmx L size (x.O+(x.D.size:Int)) h.2 (by omega) hf.2.2;simp only [total,List.length_cons];omega
theorem Je1:∀(E:List Ex) (l:Int),-9000000000000000000≤l - (total E:Int)→l≤400→E.foldl (fun a x=>wrap64 (a - (x.D.size:Int))) l=l - (total E:Int)
 |[],l,_,_=>by simp [total]
 |x::E,l,h1,h2=>by
  simp only [total] at h1;rw [List.foldl_cons,Jcn (n:=l - (x.D.size:Int)) ⟨by omega,by omega⟩,Je1 E _ (by omega) (by omega)];simp only [total];omega
theorem Jju {n:Nd} (h:oneB n=true):total n.E≤1048576∧n.E.length≤1048576:=by
 have nil:emptyB n=true→total n.E≤1048576∧n.E.length≤1048576:=fun he=>by
  have hl:n.E.length=0:=by
   unfold emptyB at he;rw [Bool.and_eq_true] at he;exact beq_iff_eq.1 he.2
  rw [List.eq_nil_of_length_eq_zero hl];simp [total]
 by_cases k1:n.K=1
 ·rw [Jjd k1,Bool.and_eq_true] at h
  have hr:=h.2;unfold rightB at hr;rw [Bool.and_eq_true,decide_eq_true_iff] at hr;have:=Jmx n.E n.S 0 hr.2 (Int.le_refl _) hr.1.1;omega
 by_cases k2:n.K=2
 ·rw [Jhb k2,Bool.and_eq_true,Bool.and_eq_true] at h
  exact nil h.1.1
 by_cases k3:n.K=3
 ·rw [Jhk k3,Bool.and_eq_true,Bool.and_eq_true] at h
  exact nil h.1.2
 by_cases k4:n.K=4
 ·rw [Jkk k4,Bool.and_eq_true,Bool.and_eq_true] at h
  exact nil h.1.2
 rw [Ji5 k1 k2 k3 k4] at h;cases h
inductive Tame:Nd→Prop
 |mk {n:Nd} (h1:n.N.length≤140737488355328) (h2:n.T.size≤140737488355328) (h3:∀x∈n.I,Tame x):Tame n
theorem Tame.item {n:Nd} (h:Tame n):∀x∈n.I,Tame x:=by cases h;assumption
theorem NdAt.tame {w:World} {B:Nat} {n:Nd} {r:Raw} (h:NdAt w B n r):Tame n:=by
 induction h with
 |mk rs fit _ _ _ _ ih=>
  have h1:=fit.ln;refine .mk (by omega) fit.t fun x hx=>?_;obtain⟨i,hi⟩:=List.mem_iff_getElem?.1 hx;exact ih i x hi
theorem Jm7 {n:Nd} {l:Int} (h1:oneB n=true) (h2:Tame n) (h3:0≤l) (h4:l≤400) (h5:0≤spend l n):spend l n+1≤l:=by
 obtain⟨t1,t2⟩:=Jju h1;obtain⟨n1,n2,_⟩:=h2;unfold spend at h5 ⊢;rw [Jcn (n:=l - (1+(n.N.length:Int)+(n.E.length:Int))) ⟨by omega,by omega⟩,Je1 _ _ (by omega) (by omega),Jcn ⟨by omega,by omega⟩] at h5 ⊢;omega
mutual
theorem Jcf:∀(n:Nd) (d l:Int),allB n=true→Tame n→0≤l→l≤400→(smallS n d l).1=true→0≤(smallS n d l).2∧(smallS n d l).2+(count n:Int)≤l
 | .mk K O N I S E T,d,l,ha,ht,h0,h1,h=>by
  rw [Jcc,Bool.and_eq_true] at ha;rw [Jcs] at h ⊢;split at h
  ·cases h
  ·rename_i hc
   rw [if_neg hc];have hs:=Jm7 ha.2 ht h0 h1 (by omega);have:=Jfe I (d - 1) _ ha.1 (fun x hx=>ht.item x hx) (by omega) (by omega) h;rw [Jar];show _∧_+((1+countL I:Nat):Int)≤l;refine⟨this.1,?_⟩;have h2:=this.2;show (smallL I (d - 1) (spend l (.mk K O N I S E T))).2+((1+countL I:Nat):Int)≤l;omega
theorem Jfe:∀(L:List Nd) (d l:Int),allL L=true→(∀x∈L,Tame x)→0≤l→l≤400→(smallL L d l).1=true→0≤(smallL L d l).2∧(smallL L d l).2+(countL L:Int)≤l
 |[],d,l,_,_,h0,_,_=>by rw [Jda,Jaj];exact⟨h0,by simp⟩
 |x::L,d,l,ha,ht,h0,h1,h=>by
  rw [Jbh,Bool.and_eq_true] at ha;rw [Jbr] at h ⊢;split at h
  ·rename_i hx
   rw [if_pos hx];have a:=Jcf x d l ha.1 (ht x (List.mem_cons_self ..)) h0 h1 hx;have b:=Jfe L d _ ha.2 (fun y hy=>ht y (List.mem_cons_of_mem _ hy)) a.1 (by omega) h;rw [Jaf];omega
  ·cases h
end
theorem Jfd {n:Nd} (h:smallB n=true) (ha:allB n=true) (ht:Tame n):count n≤400:=by
 have:=Jcf n 30 400 ha ht (by omega) (by omega) h;omega

mutual
theorem Jdc:∀(n:Nd) (d c:Int),(eachS stR n d c).1=true→allB n=true∧d+(depth n:Int)≤15
 | .mk K O N I S E T,d,c,h=>by
  rw [Jd9] at h;split at h
  ·rename_i hs
   unfold stR at hs;rw [Bool.and_eq_true,Bool.and_eq_true,decide_eq_true_iff,decide_eq_true_iff] at hs;have:=Jg2 I (d+1) _ h (by omega);rw [Jcc,Jah,hs.2];refine⟨by rw [show allL (Nd.I (.mk K O N I S E T))=true from this.1];rfl,?_⟩;have h2:=this.2;show d+(depthL I:Int)≤15;omega
  ·cases h
theorem Jg2:∀(L:List Nd) (d c:Int),(eachL stR L d c).1=true→d≤16→allL L=true∧d+(depthL L:Int)≤16
 |[],d,c,_,hd=>by rw [Jnm,Jaq];exact⟨rfl,by omega⟩
 |x::L,d,c,h,hd=>by
  rw [Jb4] at h;split at h
  ·rename_i hx
   have a:=Jdc x d c hx;have b:=Jg2 L d _ h hd;rw [Jbh,a.1,b.1,Jal];refine⟨rfl,?_⟩;have:=a.2;have:=b.2;omega
  ·cases h
end
mutual
theorem Jgt:∀(n:Nd) (d c:Int),allB n=true→d+(depth n:Int)≤15→0≤c→c+(count n:Int)≤4096→eachS stR n d c=(true,c+(count n:Int))
 | .mk K O N I S E T,d,c,ha,hd,h0,hc=>by
  rw [Jcc,Bool.and_eq_true] at ha;rw [Jah] at hd;rw [Jar] at hc ⊢;have hd':d+(depthL I:Int)≤15:=hd;have hc':c+((1+countL I:Nat):Int)≤4096:=hc;have hst:stR (.mk K O N I S E T) d c=(true,c+1):=by
   unfold stR;rw [Jcn ⟨by omega,by omega⟩,ha.2,decide_eq_true (by omega),decide_eq_true (by omega)];rfl
  rw [Jd9,hst,if_pos rfl];show eachL stR I (d+1) (c+1)=(true,c+((1+countL I:Nat):Int))
  rw [Jhc I (d+1) (c+1) ha.1 (by omega) (by omega) (by omega)];congr 1;omega
theorem Jhc:∀(L:List Nd) (d c:Int),allL L=true→d+(depthL L:Int)≤16→0≤c→c+(countL L:Int)≤4096→eachL stR L d c=(true,c+(countL L:Int))
 |[],d,c,_,_,_,_=>by rw [Jer,Jaj];simp
 |x::L,d,c,ha,hd,h0,hc=>by
  rw [Jbh,Bool.and_eq_true] at ha;rw [Jal] at hd;rw [Jaf] at hc ⊢;rw [Jb4,Jgt x d c ha.1 (by omega) h0 (by omega),if_pos rfl];show eachL stR L d (c+(count x:Int))=_;rw [Jhc L d _ ha.2 (by omega) (by omega) (by omega)];congr 1;omega
end
theorem Jj7 {n:Nd} (h:smallB n=true) (ht:Tame n):treeB n=refB n:=by
 unfold treeB refB;rcases ha:allB n with _ |_
 ·rcases hs:(eachS stR n 0 0).1 with _ |_
  ·simp
  ·have:=(Jdc n 0 0 hs).1
   rw [ha] at this;cases this
 ·have hc:=Jfd h ha ht
  rw [Jcn ⟨by omega,by omega⟩,decide_eq_true (show (count n:Int)≤4096 by omega),Bool.and_true,Bool.and_true];by_cases hd:depth n≤15
  ·rw [Jgt n 0 0 ha (by omega) (by omega) (by omega),decide_eq_true hd]
  ·rw [decide_eq_false hd]
   rcases hs:(eachS stR n 0 0).1 with _ |_
   ·rfl
   ·have:=(Jdc n 0 0 hs).2
    omega
mutual
theorem Jhi:∀(n:Nd) (d c:Int),d+(depth n:Int)≤65536→eachS stC n d (wrap64 c)=(true,wrap64 (c+(count n:Int)))
 | .mk K O N I S E T,d,c,hd=>by
  rw [Jah] at hd;have hd':d+(depthL I:Int)≤65536:=hd;have hw:wrap64 (wrap64 c+1)=wrap64 (c+1):=by unfold wrap64;omega
  have hst:stC (.mk K O N I S E T) d (wrap64 c)=(true,wrap64 (c+1)):=by
   unfold stC;rw [hw,decide_eq_true (by omega)]
  rw [Jd9,hst,if_pos rfl,Jar];show eachL stC I (d+1) (wrap64 (c+1))=(true,wrap64 (c+((1+countL I:Nat):Int)))
  rw [Jgm I (d+1) (c+1) (by omega)];congr 2;omega
theorem Jgm:∀(L:List Nd) (d c:Int),d+(depthL L:Int)≤65537→eachL stC L d (wrap64 c)=(true,wrap64 (c+(countL L:Int)))
 |[],d,c,_=>by rw [Jer,Jaj];simp
 |x::L,d,c,hd=>by
  rw [Jal] at hd;rw [Jb4,Jhi x d c (by omega),if_pos rfl,Jaf];show eachL stC L d (wrap64 (c+(count x:Int)))=_;rw [Jgm L d _ (by omega)];congr 2;omega
end
theorem Jj0 {n:Nd} (hd:depth n≤1000):countC n=wrap64 (count n:Int):=by
 unfold countC;have h:=Jhi n 0 0 (by omega);rw [show wrap64 0=0 by decide+kernel] at h;rw [h,Int.zero_add]
mutual
theorem Jpl:∀(n:Nd) (d c:Int),d+(depth n:Int)≤65536→(eachS stE n d c).1=true
 | .mk K O N I S E T,d,c,hd=>by
  rw [Jah] at hd;have hd':d+(depthL I:Int)≤65536:=hd;have hst:stE (.mk K O N I S E T) d c=(true,c):=by
   unfold stE;rw [decide_eq_true (by omega)]
  rw [Jd9,hst,if_pos rfl];exact Jhv I (d+1) c (by omega)
theorem Jhv:∀(L:List Nd) (d c:Int),d+(depthL L:Int)≤65537→(eachL stE L d c).1=true
 |[],d,c,_=>by rw [Jer]
 |x::L,d,c,hd=>by
  rw [Jal] at hd;rw [Jb4,if_pos (Jpl x d c (by omega))];exact Jhv L d _ (by omega)
end

theorem Jq6 {x y:ByteArray} (h:x≠y):(x.toList !=y.toList)=true:=by
 rw [bne_iff_ne,name.to_list,name.to_list];intro e;refine h ?_;obtain⟨⟨a⟩⟩:=x;obtain⟨⟨b⟩⟩:=y;simp only at e;rw [e]

def pr (x:Ex):Int×ByteArray:=(x.O,x.D)

structure Two (w W1:World) (n:Nd) (r:Raw) (m:Nd) (q:Raw):Prop where
 x:Box W1 w.heap.size n r
 y:Box W1 (w.heap.size+1) m q
 b:Below w.heap.size w W1
theorem Two.new (w:World) (n:Nd) (r:Raw) (m:Nd) (q:Raw):Two w ((w.alloc (.cells (rawCells n r) 46)).alloc (.cells (rawCells m q) 46)) n r m q:=
 ⟨(Box.new w n r).alloc _,Jfo _ _ _,((Below.refl _ _).alloc (Nat.le_refl _) _).alloc (by simp) _⟩
theorem Two.later {w W1 w2:World} {n m:Nd} {r q:Raw} (h:Two w W1 n r m q) (hb:Below W1.heap.size W1 w2):Two w w2 n r m q:=
 ⟨h.x.below hb,h.y.below hb,h.b.trans (hb.mono h.b.size)⟩


end Go.Proofs.YtekekhgjobahaaaGreatDoor.tre
