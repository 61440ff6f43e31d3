/- What the reference's Right and the law's 'big' answer of any slice of extents. Conditions: the numbers are ints, the texts no longer than a process holds. -/
import Derived.Test.YtckjkndegjklnaaGreatDoorJB2
namespace Go.Proofs.YtckjkndegjklnaaGreatDoor.ext
set_option maxRecDepth 100000
open Go.RowKit words

def Ahead (L:List Ex) (k:Nat) (e:Int):Prop:=(k=0∧e=0)∨∃j y,k=j+1∧L[j]?=some y∧e=y.O+(y.D.size:Int)

theorem Jbm {w:World} {a b:Nat}:∃n,w.drewN n=(w.drewN a).drewN b:=⟨a+b,(World.drewN_drewN _ _ _).symm⟩
set_option maxHeartbeats 3200000 in
theorem Ja3 (size:Int) (A:Option Addr) (cap:Nat) (L:List Ex) (w:World) (hI:Exts w w.heap.size A L) (hlen:L.length≤4611686018427387904) (hs1: -9223372036854775808≤size) (hs2:size≤9223372036854775807):
  Calls Tryz.prog 129 #[.int .i64 size,.slice A L.length cap] w fun e w'=>e= .returned (.bool (rightB size L))∧∃n,w.drewN n=w':=by
 have HI:=Lib.hid hI
 clear hI
 by_cases h0:size<0
 ·have HR:=Lib.hid (Jbl (L:=L) (size:=size) (by omega))
  go_enter Tryz.func129,Tryz.ntmps129
  go_wp2_with fail
  go_ret
  exact⟨Jac HR.out.symm,0,rfl⟩
 by_cases h1:1048576<size
 ·have HR:=Lib.hid (Jbl (L:=L) (size:=size) (by omega))
  have d0:decide (size<0)=false:=by simp;omega
  go_enter Tryz.func129,Tryz.ntmps129
  go_wp2_with fail
  go_ret
  exact⟨Jac HR.out.symm,0,rfl⟩
 have d0:decide (size<0)=false:=by simp;omega
 have d1:decide (1048576<size)=false:=by simp;omega
 have k0:0≤size:=by omega
 have k1:size≤1048576:=by omega
 go_enter Tryz.func129,Tryz.ntmps129
 go_wp2_with fail
 go_loopw [5] (fun c wr=>∃(k:Nat) (en:Int) (n:Nat),k≤L.length∧c= .int .i64 k∧0≤en∧en≤1048576∧Left size L en k∧Ahead L k en∧wr=w.drewN n)
  (fun c _=>L.length - (intOf c).toNat)
 case atStart=>exact⟨0,0,0,Nat.zero_le _,rfl,Int.le_refl _,by omega,Left.start _ _,.inl ⟨rfl,rfl⟩,rfl⟩
 case round=>
  obtain⟨k,en,nd,hk,rfl,he0,he1,hleft,hah,rfl⟩:=hrel
  have HA:=Lib.hid hah
  have HL:=Lib.hid hleft
  clear hah hleft d0 d1
  by_cases hlt:k<L.length
  ·obtain⟨x,hx⟩:∃x,L[k]?=some x:=⟨_,List.getElem?_eq_getElem hlt⟩
   obtain⟨⟨b,off,rfl,hB,c0,c1⟩,o1,o2,hz⟩:=HI.out k x hx
   have HX:=Lib.hid hx
   have i0:(0:Int)≤(k:Int):=by omega
   have i1:(k:Int)<(L.length:Int):=by omega
   clear hx
   by_cases a1:x.O<0
   ·have HN:=Lib.hid (HL.out.no HX.out (by omega))
    have g1:decide (x.O<0)=true:=by simpa using a1
    go_wp2_with fail
    go_quiet (fail)
    go_wp2_with fail
    go_ret
    exact⟨Jac HN.out.symm,Jbm⟩
   have g1:decide (x.O<0)=false:=by simp;omega
   by_cases a2:size<x.O
   ·have HN:=Lib.hid (HL.out.no HX.out (by omega))
    have g2:decide (size<x.O)=true:=by simpa using a2
    clear a1
    go_wp2_with fail
    go_quiet (fail)
    go_wp2_with fail
    go_ret
    exact⟨Jac HN.out.symm,Jbm⟩
   have g2:decide (size<x.O)=false:=by simp;omega
   by_cases a3:(x.D.size:Int)<1
   ·have HN:=Lib.hid (HL.out.no HX.out (by omega))
    have g3:decide ((x.D.size:Int)<1)=true:=by simpa using a3
    have g3':x.D.size=0:=by omega
    have G3:=Lib.hid g3'
    clear a1 a2 g3'
    go_wp2_with fail
    go_quiet (fail)
    go_wp2_with fail
    go_ret
    exact⟨Jac HN.out.symm,Jbm⟩
   have g3:decide ((x.D.size:Int)<1)=false:=by simp;omega
   have hw:IntKind.i64.wrap (x.O+(x.D.size:Int))=x.O+(x.D.size:Int):=IntWalk.i64_in _ ⟨by omega,by omega⟩
   by_cases a4:size<x.O+(x.D.size:Int)
   ·have HN:=Lib.hid (HL.out.no HX.out (by omega))
    have g4:decide (size<x.O+(x.D.size:Int))=true:=by simpa using a4
    clear a1 a2 a3
    go_wp2_with fail
    go_quiet (fail)
    go_wp2_with fail
    go_ret
    exact⟨Jac HN.out.symm,Jbm⟩
   have g4:decide (size<x.O+(x.D.size:Int))=false:=by simp;omega
   rcases HA.out with⟨hk0,he⟩ |⟨j,y,hj,hy,he⟩
   ·have HN:=Lib.hid (HL.out.next HX.out (by omega) (by omega) (by omega))
    have HAN:=Lib.hid (show Ahead L (k+1) (x.O+(x.D.size:Int)) from .inr ⟨k,x,rfl,HX.out,rfl⟩)
    have p1:¬(0:Int)<(k:Int):=by omega
    have p2:decide (0<k)=false:=by simp;omega
    have p4:¬0<k:=by omega
    have p3:0≤x.O+(x.D.size:Int)∧x.O+(x.D.size:Int)≤1048576:=by omega
    have P3:=Lib.hid p3
    clear a1 a2 a3 a4 hk0 he p3
    go_wp2_with fail
    go_quiet (fail)
    go_wp2_with fail
    go_quiet (fail)
    go_wp2_with fail
    go_roundw
    case rel=>exact⟨k+1,_,_,by omega,by go_num,P3.out.1,P3.out.2,HN.out,HAN.out,rfl⟩
    case measure=>simp [intOf];omega
   ·obtain⟨⟨b',off',hA',_,c2,c3⟩,oy1,oy2,hyz⟩:=HI.out j y hy
    injection hA' with e1
    injection e1 with e2 e3
    subst e2 e3
    have p1:(0:Int)<(k:Int):=by omega
    have p2:decide (0<k)=true:=by simp;omega
    have p4:0<k:=by omega
    have hw1:IntKind.i64.wrap ((k:Int) - 1)=(j:Int):=by rw [IntWalk.i64_in _ ⟨by omega,by omega⟩];omega
    have hw2:IntKind.i64.wrap (y.O+(y.D.size:Int))=y.O+(y.D.size:Int):=IntWalk.i64_in _ ⟨by omega,by omega⟩
    have j0:(0:Int)≤(j:Int):=by omega
    have j1:(j:Int)<(L.length:Int):=by omega
    have jn:((j:Int)).toNat=j:=by omega
    by_cases a5:x.O<y.O+(y.D.size:Int)
    ·have HN:=Lib.hid (HL.out.no HX.out (by omega))
     have g5:decide (x.O<y.O+(y.D.size:Int))=true:=by simpa using a5
     clear a1 a2 a3 a4 hj he hy
     go_wp2_with fail
     go_quiet (fail)
     go_wp2_with fail
     go_quiet (fail)
     go_wp2_with fail
     go_ret
     exact⟨Jac HN.out.symm,by rw [World.drewN_drewN];exact Jbm⟩
    ·have g5:decide (x.O<y.O+(y.D.size:Int))=false:=by simp;omega
     have HN:=Lib.hid (HL.out.next HX.out (by omega) (by omega) (by omega))
     have HAN:=Lib.hid (show Ahead L (k+1) (x.O+(x.D.size:Int)) from .inr ⟨k,x,rfl,HX.out,rfl⟩)
     have p3:0≤x.O+(x.D.size:Int)∧x.O+(x.D.size:Int)≤1048576:=by omega
     have P3:=Lib.hid p3
     clear a1 a2 a3 a4 a5 hj he hy p3
     go_wp2_with fail
     go_quiet (fail)
     go_wp2_with fail
     go_quiet (fail)
     go_wp2_with fail
     go_roundw
     case rel=>exact⟨k+1,_,_,by omega,by go_num,P3.out.1,P3.out.2,HN.out,HAN.out,rfl⟩
     case measure=>simp [intOf];omega
  ·have HD:=Lib.hid (HL.out.done (by omega) k0 k1)
   go_wp2_with fail
   go_ret
   exact⟨Jac HD.out.symm,nd,rfl⟩
end Go.Proofs.YtckjkndegjklnaaGreatDoor.ext
