import Derived.Test.YtekekhgjobahaaaGreatDoorA5
set_option maxHeartbeats 3200000
set_option maxRecDepth 100000
open Go.Lib (hid)
open Go.Proofs.Tryz
namespace Go.Proofs.YtekekhgjobahaaaGreatDoor.ext
open Go.RowKit words

def Left (size:Int) (L:List Ex) (e:Int) (k:Nat):Prop:=rightFrom size 0 L=rightFrom size e (L.drop k)
theorem Left.start (size:Int) (L:List Ex):Left size L 0 0:=rfl
theorem Left.next {size e:Int} {L:List Ex} {k:Nat} {x:Ex} (h:Left size L e k) (hx:L[k]?=some x) (h1:1≤x.D.size) (h2:e≤x.O) (h3:x.O+(x.D.size:Int)≤size):Left size L (x.O+(x.D.size:Int)) (k+1):=by
 unfold Left at h ⊢;rw [h,drop_at hx,Jbe,Joz h1 h2 h3,Bool.true_and]
theorem Left.no {size e:Int} {L:List Ex} {k:Nat} {x:Ex} (h:Left size L e k) (hx:L[k]?=some x) (h1:¬(1≤x.D.size∧e≤x.O∧x.O+(x.D.size:Int)≤size)):rightB size L=false:=by
 unfold Left at h;unfold rightB;rw [h,drop_at hx,Jbe,Jrh h1,Bool.false_and,Bool.and_false]
theorem Left.done {size e:Int} {L:List Ex} {k:Nat} (h:Left size L e k) (hk:L.length≤k) (h0:0≤size) (h1:size≤1048576):rightB size L=true:=by
 unfold Left at h;unfold rightB;rw [h,List.drop_of_length_le hk,decide_eq_true ⟨h0,h1⟩];rfl
theorem Jcg {size:Int} {L:List Ex} (h:¬(0≤size∧size≤1048576)):rightB size L=false:=by
 unfold rightB;rw [decide_eq_false h,Bool.false_and]
theorem Jac {a b:Bool} (h:a=b):Ending.returned (.bool a)= .returned (.bool b):=by rw [h]
theorem Jgb (size:Int) (A:Option Addr) (cap:Nat) (L:List Ex) (w:World) (hI:Exts w w.heap.size A L) (hlen:L.length≤9223372036854775807) (hs1: -9223372036854775808≤size) (hs2:size≤9223372036854775807):
  Calls prog 179 #[.int .i64 size,.slice A L.length cap] w fun e w'=>e= .returned (.bool (rightB size L))∧Below w.heap.size w w':=by
 have HI:=hid hI;clear hI;by_cases h0:size<0
 ·have HR:=hid (Jcg (L:=L) (size:=size) (by omega))
  go_enter func179,ntmps179
  go_wp2_with fail
  go_ret
  exact⟨Jac HR.out.symm,Below.refl _ _⟩
 by_cases h1:1048576<size
 ·have HR:=hid (Jcg (L:=L) (size:=size) (by omega))
  have d0:decide (size<0)=false:=by simp;omega
  go_enter func179,ntmps179
  go_wp2_with fail
  go_ret
  exact⟨Jac HR.out.symm,Below.refl _ _⟩
 have d0:decide (size<0)=false:=by simp;omega
 have d1:decide (1048576<size)=false:=by simp;omega
 have k0:0≤size:=by omega
 have k1:size≤1048576:=by omega
 go_enter func179,ntmps179
 go_wp2_with fail
 go_loopw [5,16] (fun e c wr=>∃(k:Nat) (en:Int),k≤L.length∧c= .int .i64 k∧e= .int .i64 en∧0≤en∧en≤1048576∧Left size L en k∧Below w.heap.size w wr)
  (fun _ c _=>L.length - (intOf c).toNat)
 case atStart=>exact⟨0,0,Nat.zero_le _,rfl,rfl,Int.le_refl _,by omega,Left.start _ _,Below.refl _ _⟩
 case round=>
  obtain⟨k,en,hk,rfl,rfl,he0,he1,hleft,hbel⟩:=hrel;have HB:=hid hbel;have HL:=hid hleft;clear hbel hleft d0 d1;by_cases hlt:k<L.length
  ·obtain⟨x,hx⟩:∃x,L[k]?=some x:=⟨_,List.getElem?_eq_getElem hlt⟩
   obtain⟨⟨b,off,rfl,hB,c0,c1⟩,o1,o2,hz⟩:=(HI.out.keep HB.out) k x hx;have HX:=hid hx;have HBX:=hid (HB.out.alloc HB.out.size (.cells #[.int .i64 x.O,.string x.D] 131));clear hx;by_cases f1:1≤x.D.size∧en≤x.O∧x.O+(x.D.size:Int)≤size
   ·obtain⟨f1,f2,f3⟩:=f1
    have HN:=hid (HL.out.next HX.out f1 f2 f3);have g1:x.D.toList.isEmpty=false:=by
     rw [List.isEmpty_eq_false_iff];intro e;have:x.D.toList.length=0:=by rw [e];rfl
     rw [to_list,size_list] at this;omega
    have g2:decide (x.O<en)=false:=by simp;omega
    have g3:decide (size - (x.D.size:Int)<x.O)=false:=by simp;omega
    go_wp2_with fail
    go_roundw
    case rel=>exact⟨k+1,_,by omega,by go_num,rfl,by omega,by omega,HN.out,HBX.out⟩
    case measure=>simp [intOf];omega
   ·have HN:=hid (HL.out.no HX.out f1)
    by_cases f2:x.D.size=0
    ·have g1:x.D.toList.isEmpty=true:=by
      rw [List.isEmpty_iff,to_list];exact List.eq_nil_of_length_eq_zero (by rw [size_list];exact f2)
     have F:=hid f2;clear f1 f2;go_wp2_with fail
     go_ret
     exact⟨Jac HN.out.symm,HBX.out⟩
    ·have g1:x.D.toList.isEmpty=false:=by
      rw [List.isEmpty_eq_false_iff];intro e;have:x.D.toList.length=0:=by rw [e];rfl
      rw [to_list,size_list] at this;omega
     by_cases f3:x.O<en
     ·clear f1 f2
      go_wp2_with fail
      go_ret
      exact⟨Jac HN.out.symm,HBX.out⟩
     ·have g2:decide (x.O<en)=false:=by simp;omega
      have f4:size - (x.D.size:Int)<x.O:=by omega
      have f5:(1:Int)≤(x.D.size:Int):=by omega
      have f6:en≤x.O:=by omega
      clear f1 f2 f3;go_wp2_with fail
      go_ret
      exact⟨Jac HN.out.symm,HBX.out⟩
  ·have HD:=hid (HL.out.done (by omega) k0 k1)
   go_wp2_with fail
   go_ret
   exact⟨Jac HD.out.symm,HB.out⟩

def Ahead (L:List Ex) (k:Nat) (e:Int):Prop:=(k=0∧e=0)∨∃j y,k=j+1∧L[j]?=some y∧e=y.O+(y.D.size:Int)

theorem Jdd {w:World} {a b:Nat}:∃n,w.drewN n=(w.drewN a).drewN b:=⟨a+b,(World.drewN_drewN _ _ _).symm⟩
theorem Jbi (size:Int) (A:Option Addr) (cap:Nat) (L:List Ex) (w:World) (hI:Exts w w.heap.size A L) (hlen:L.length≤4611686018427387904) (hs1: -9223372036854775808≤size) (hs2:size≤9223372036854775807):
  Calls prog 100 #[.int .i64 size,.slice A L.length cap] w fun e w'=>e= .returned (.bool (rightB size L))∧∃n,w.drewN n=w':=by
 have HI:=hid hI;clear hI;by_cases h0:size<0
 ·have HR:=hid (Jcg (L:=L) (size:=size) (by omega))
  go_enter func100,ntmps100
  go_wp2_with fail
  go_ret
  exact⟨Jac HR.out.symm,0,rfl⟩
 by_cases h1:1048576<size
 ·have HR:=hid (Jcg (L:=L) (size:=size) (by omega))
  have d0:decide (size<0)=false:=by simp;omega
  go_enter func100,ntmps100
  go_wp2_with fail
  go_ret
  exact⟨Jac HR.out.symm,0,rfl⟩
 have d0:decide (size<0)=false:=by simp;omega
 have d1:decide (1048576<size)=false:=by simp;omega
 have k0:0≤size:=by omega
 have k1:size≤1048576:=by omega
 go_enter func100,ntmps100
 go_wp2_with fail
 go_loopw [5] (fun c wr=>∃(k:Nat) (en:Int) (n:Nat),k≤L.length∧c= .int .i64 k∧0≤en∧en≤1048576∧Left size L en k∧Ahead L k en∧wr=w.drewN n)
  (fun c _=>L.length - (intOf c).toNat)
 case atStart=>exact⟨0,0,0,Nat.zero_le _,rfl,Int.le_refl _,by omega,Left.start _ _,.inl ⟨rfl,rfl⟩,rfl⟩
 case round=>
  obtain⟨k,en,nd,hk,rfl,he0,he1,hleft,hah,rfl⟩:=hrel;have HA:=hid hah;have HL:=hid hleft;clear hah hleft d0 d1;by_cases hlt:k<L.length
  ·obtain⟨x,hx⟩:∃x,L[k]?=some x:=⟨_,List.getElem?_eq_getElem hlt⟩
   obtain⟨⟨b,off,rfl,hB,c0,c1⟩,o1,o2,hz⟩:=HI.out k x hx;have HX:=hid hx;have i0:(0:Int)≤(k:Int):=by omega
   have i1:(k:Int)<(L.length:Int):=by omega
   clear hx;by_cases a1:x.O<0
   ·have HN:=hid (HL.out.no HX.out (by omega))
    have g1:decide (x.O<0)=true:=by simpa using a1
    go_wp2_with fail
    go_quiet (fail)
    go_wp2_with fail
    go_ret
    exact⟨Jac HN.out.symm,Jdd⟩
   have g1:decide (x.O<0)=false:=by simp;omega
   by_cases a2:size<x.O
   ·have HN:=hid (HL.out.no HX.out (by omega))
    have g2:decide (size<x.O)=true:=by simpa using a2
    clear a1;go_wp2_with fail
    go_quiet (fail)
    go_wp2_with fail
    go_ret
    exact⟨Jac HN.out.symm,Jdd⟩
   have g2:decide (size<x.O)=false:=by simp;omega
   by_cases a3:(x.D.size:Int)<1
   ·have HN:=hid (HL.out.no HX.out (by omega))
    have g3:decide ((x.D.size:Int)<1)=true:=by simpa using a3
    have g3':x.D.size=0:=by omega
    have G3:=hid g3';clear a1 a2 g3';go_wp2_with fail
    go_quiet (fail)
    go_wp2_with fail
    go_ret
    exact⟨Jac HN.out.symm,Jdd⟩
   have g3:decide ((x.D.size:Int)<1)=false:=by simp;omega
   have hw:IntKind.i64.wrap (x.O+(x.D.size:Int))=x.O+(x.D.size:Int):=IntWalk.i64_in _ ⟨by omega,by omega⟩;by_cases a4:size<x.O+(x.D.size:Int)
   ·have HN:=hid (HL.out.no HX.out (by omega))
    have g4:decide (size<x.O+(x.D.size:Int))=true:=by simpa using a4
    clear a1 a2 a3;go_wp2_with fail
    go_quiet (fail)
    go_wp2_with fail
    go_ret
    exact⟨Jac HN.out.symm,Jdd⟩
   have g4:decide (size<x.O+(x.D.size:Int))=false:=by simp;omega
   rcases HA.out with⟨hk0,he⟩ |⟨j,y,hj,hy,he⟩
   ·have HN:=hid (HL.out.next HX.out (by omega) (by omega) (by omega))
    have HAN:=hid (show Ahead L (k+1) (x.O+(x.D.size:Int)) from .inr ⟨k,x,rfl,HX.out,rfl⟩);have p1:¬(0:Int)<(k:Int):=by omega
    have p2:decide (0<k)=false:=by simp;omega
    have p4:¬0<k:=by omega
    have p3:0≤x.O+(x.D.size:Int)∧x.O+(x.D.size:Int)≤1048576:=by omega
    have P3:=hid p3;clear a1 a2 a3 a4 hk0 he p3;go_wp2_with fail
    go_quiet (fail)
    go_wp2_with fail
    go_quiet (fail)
    go_wp2_with fail
    go_roundw
    case rel=>exact⟨k+1,_,_,by omega,by go_num,P3.out.1,P3.out.2,HN.out,HAN.out,rfl⟩
    case measure=>simp [intOf];omega
   ·obtain⟨⟨b',off',hA',_,c2,c3⟩,oy1,oy2,hyz⟩:=HI.out j y hy
    injection hA' with e1;injection e1 with e2 e3;subst e2 e3;have p1:(0:Int)<(k:Int):=by omega
    have p2:decide (0<k)=true:=by simp;omega
    have p4:0<k:=by omega
    have hw1:IntKind.i64.wrap ((k:Int) - 1)=(j:Int):=by rw [IntWalk.i64_in _ ⟨by omega,by omega⟩];omega
    have hw2:IntKind.i64.wrap (y.O+(y.D.size:Int))=y.O+(y.D.size:Int):=IntWalk.i64_in _ ⟨by omega,by omega⟩;have j0:(0:Int)≤(j:Int):=by omega
    have j1:(j:Int)<(L.length:Int):=by omega
    have jn:((j:Int)).toNat=j:=by omega
    by_cases a5:x.O<y.O+(y.D.size:Int)
    ·have HN:=hid (HL.out.no HX.out (by omega))
     have g5:decide (x.O<y.O+(y.D.size:Int))=true:=by simpa using a5
     clear a1 a2 a3 a4 hj he hy;go_wp2_with fail
     go_quiet (fail)
     go_wp2_with fail
     go_quiet (fail)
     go_wp2_with fail
     go_ret
     exact⟨Jac HN.out.symm,by rw [World.drewN_drewN];exact Jdd⟩
    ·have g5:decide (x.O<y.O+(y.D.size:Int))=false:=by simp;omega
     have HN:=hid (HL.out.next HX.out (by omega) (by omega) (by omega));have HAN:=hid (show Ahead L (k+1) (x.O+(x.D.size:Int)) from .inr ⟨k,x,rfl,HX.out,rfl⟩);have p3:0≤x.O+(x.D.size:Int)∧x.O+(x.D.size:Int)≤1048576:=by omega
     have P3:=hid p3;clear a1 a2 a3 a4 a5 hj he hy p3;go_wp2_with fail
     go_quiet (fail)
     go_wp2_with fail
     go_quiet (fail)
     go_wp2_with fail
     go_roundw
     case rel=>exact⟨k+1,_,_,by omega,by go_num,P3.out.1,P3.out.2,HN.out,HAN.out,rfl⟩
     case measure=>simp [intOf];omega
  ·have HD:=hid (HL.out.done (by omega) k0 k1)
   go_wp2_with fail
   go_ret
   exact⟨Jac HD.out.symm,nd,rfl⟩
end Go.Proofs.YtekekhgjobahaaaGreatDoor.ext
