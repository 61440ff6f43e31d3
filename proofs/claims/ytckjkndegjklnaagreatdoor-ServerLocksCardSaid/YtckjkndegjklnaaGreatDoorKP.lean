/- How what came in is read: rows of plain values. No condition. What is asked of a server's locks: a structure. No condition. How a socagelaw21.Act that came in is read, and rows of them. No condition. -/
import Derived.Test.YtckjkndegjklnaaGreatDoorRows
import Derived.Test.YtckjkndegjklnaaGreatDoorKA
import Derived.Test.YtckjkndegjklnaaGreatDoorChecked
import Derived.ProofKit
import Derived.OpenShut
import Derived.Deep.Slices
namespace Go.Proofs.YtckjkndegjklnaaGreatDoor.pln
set_option maxRecDepth 100000
open Go.ChangeShapes Go.WideShapes Go.RowKit words lru

theorem two {α:Type} {l:List α} (h:l.length=2):∃a b,l=[a,b]:=by
 match l,h with
 |[a,b],_=>exact⟨a,b,rfl⟩
section
variable {H:Type} {enc:TypeId×Value→H} {W:World} {base:Nat} {spare:Nat→Bool} {held:Bool}
theorem cellsStr:Tryz.prog.cellsOf 9=1:=by kernel_rfl
theorem cellsBool:Tryz.prog.cellsOf 4=1:=by kernel_rfl
theorem cellsU8:Tryz.prog.cellsOf 5=1:=by kernel_rfl
def big (x:Int):Prop:= -9223372036854775808≤x∧x≤9223372036854775807
theorem Jof {n:Int} (h:(Lit.int .u8 n).wf=true):∃k:Nat,n=(k:Int)∧k≤255:=by
 simp [Lit.wf,IntKind.min,IntKind.max,IntKind.signed,IntKind.bits] at h
 exact⟨n.toNat,by omega,by omega⟩
theorem row_of {fuel:Nat} {a0:Option Addr} {len cap:Nat} {e t:TypeId} {α:Type} [Inhabited α] (m:Nat) (C:α→List Value) (Q:α→Prop) (hu:Tryz.prog.underlying t=some (.slice e)) (hm0:Tryz.prog.cellsOf e=m) (hpos:∀y,0<(C y).length∧(C y).length≤m)
  (hone:∀(f:Nat) (cs:List Value) x,DataW.trod enc Tryz.prog W base spare held f e cs=some x→∃y,cs=C y∧Q y) {x:DataW H×List MemPlace} (h:DataW.trod enc Tryz.prog W base spare held fuel t [.slice a0 len cap]=some x):
  ∃L:List α,L.length=len∧(∀i y,L[i]?=some y→(∃b off,a0=some ⟨b,off,none⟩∧b<W.heap.size∧∀j v,(C y)[j]?=some v→W.cell? ⟨b,off+i*m+j,none⟩=some v)∧Q y)∧len≤9223372036854775807:=by
 rcases Deep.open_slice hu h with⟨hc,_⟩ |⟨a,l,c,mm,n,D,Pl,hc,_,hl,hm,hmm,_,hi⟩
 ·simp at hc
  obtain⟨rfl,rfl,rfl⟩:=hc
  exact⟨[],rfl,fun i x hx=>by simp at hx,by omega⟩
 ·simp at hc
  obtain⟨rfl,rfl,rfl⟩:=hc
  have hlm:len≤mm:=by rw [hmm];split<;>omega
  have each:∀i,i<len→∃y:α,Q y∧∀j v,(C y)[j]?=some v→W.cell? ((a.add (i*m)).add j)=some v:=fun i hlt=>by
   obtain⟨cs,hcs,ht⟩:=hi i (by omega)
   rw [hm0] at hcs
   obtain⟨y,rfl,hq⟩:=hone _ _ _ ht
   obtain⟨_,_,hat⟩:=World.cells?_some hcs
   exact⟨y,hq,fun j v hj=>(hat j (by have:=(List.getElem?_eq_some_iff.1 hj).1;have:=(hpos y).2;omega)).trans hj⟩
  obtain⟨f,hfl⟩:=Deep.choose_lt each
  refine⟨(List.range len).map f,by simp,fun i x hx=>?_,by unfold maxLen at hm;omega⟩
  have hlt:i<len:=by
   have:=(List.getElem?_eq_some_iff.1 hx).1
   simpa using this
  have hxe:x=f i:=by
   rw [List.getElem?_map,List.getElem?_range hlt] at hx
   simpa using hx.symm
  subst hxe
  obtain⟨b,off,spot⟩:=a
  obtain⟨v0,hv0⟩:∃v,(C (f 0))[0]?=some v:=⟨_,List.getElem?_eq_getElem (hpos _).1⟩
  have h0:=(hfl 0 (by omega)).2 0 _ hv0
  have hspot:spot=none:=by simpa [Addr.add] using World.cell?_spot h0
  subst hspot
  have hcell:=(hfl i hlt).2
  simp only [Jan] at hcell
  obtain⟨v1,hv1⟩:∃v,(C (f i))[0]?=some v:=⟨_,List.getElem?_eq_getElem (hpos _).1⟩
  exact⟨⟨b,off,rfl,World.block_lt_of_cell? W _ (hcell 0 _ hv1),hcell⟩,(hfl i hlt).1⟩
instance:Inhabited ByteArray:=⟨⟨#[]⟩⟩
end
end Go.Proofs.YtckjkndegjklnaaGreatDoor.pln

namespace Go.Proofs.YtckjkndegjklnaaGreatDoor.svr

structure Act21 where
 gv:Bool
 li:Bool
 sh:Nat
 id:Nat
end Go.Proofs.YtckjkndegjklnaaGreatDoor.svr

namespace Go.Proofs.YtckjkndegjklnaaGreatDoor.svr
set_option maxRecDepth 100000
open Go.ChangeShapes Go.WideShapes Go.RowKit words lru pln

section
variable {H:Type} {enc:TypeId×Value→H} {W:World} {base:Nat} {spare:Nat→Bool} {held:Bool}
def Act21.cells (y:Act21):List Value:=[.bool y.gv,.bool y.li,.int .u8 (y.sh:Int),.int .u8 (y.id:Int)]
def Act21.fine (y:Act21):Prop:=y.sh≤255∧y.id≤255
theorem cellsAct21:Tryz.prog.cellsOf 33=4:=by kernel_rfl
theorem listAct21 {α:Type} {l:List α} (h:l.length=4):∃c0 c1 c2 c3,l=[c0,c1,c2,c3]:=by
 match l,h with
 |[c0,c1,c2,c3],_=>exact⟨c0,c1,c2,c3,rfl⟩
theorem Act21.of {fuel:Nat} {cs:List Value} {x:DataW H×List MemPlace} (h:DataW.trod enc Tryz.prog W base spare held fuel 33 cs=some x):∃y:Act21,cs=y.cells∧y.fine:=by
 obtain⟨xs,n,_,_,hlen,hxl,hf⟩:=DataW.trod_struct Tryz.underlying33 h
 rw [cellsAct21] at hlen
 obtain⟨c0,c1,c2,c3,rfl⟩:=listAct21 hlen
 obtain⟨x0,x1,x2,x3,rfl⟩:=listAct21 (l:=xs) hxl
 have g0:DataW.trod enc Tryz.prog W base spare held n 4 (([c0,c1,c2,c3].drop 0).take (Tryz.prog.cellsOf 4))=some x0:=hf 0 _ rfl
 rw [cellsBool] at g0
 have g1:DataW.trod enc Tryz.prog W base spare held n 4 (([c0,c1,c2,c3].drop 1).take (Tryz.prog.cellsOf 4))=some x1:=hf 1 _ rfl
 rw [cellsBool] at g1
 have g2:DataW.trod enc Tryz.prog W base spare held n 5 (([c0,c1,c2,c3].drop 2).take (Tryz.prog.cellsOf 5))=some x2:=hf 2 _ rfl
 rw [cellsU8] at g2
 have g3:DataW.trod enc Tryz.prog W base spare held n 5 (([c0,c1,c2,c3].drop 3).take (Tryz.prog.cellsOf 5))=some x3:=hf 3 _ rfl
 rw [cellsU8] at g3
 obtain⟨v0,e0,_⟩:=DataW.trod_bool Tryz.underlying4 (show DataW.trod enc Tryz.prog W base spare held n 4 [c0]=some x0 from g0)
 obtain rfl:=List.head_eq_of_cons_eq e0
 obtain⟨v1,e1,_⟩:=DataW.trod_bool Tryz.underlying4 (show DataW.trod enc Tryz.prog W base spare held n 4 [c1]=some x1 from g1)
 obtain rfl:=List.head_eq_of_cons_eq e1
 obtain⟨i2,e2,_,u2⟩:=DataW.trod_int Tryz.underlying5 (show DataW.trod enc Tryz.prog W base spare held n 5 [c2]=some x2 from g2)
 obtain⟨v2,rfl,w2⟩:=Jof u2
 obtain rfl:=List.head_eq_of_cons_eq e2
 obtain⟨i3,e3,_,u3⟩:=DataW.trod_int Tryz.underlying5 (show DataW.trod enc Tryz.prog W base spare held n 5 [c3]=some x3 from g3)
 obtain⟨v3,rfl,w3⟩:=Jof u3
 obtain rfl:=List.head_eq_of_cons_eq e3
 exact⟨⟨v0,v1,v2,v3⟩,rfl,⟨w2,w3⟩⟩
instance:Inhabited Act21:=⟨⟨false,false,0,0⟩⟩
def Act21s (w:World) (B:Nat) (A:Option Addr) (T:List Act21):Prop:=
 ∀i y,T[i]?=some y→∃b off,A=some ⟨b,off,none⟩∧b<B∧w.cell? ⟨b,off+i*4,none⟩=some (.bool y.gv)∧w.cell? ⟨b,off+i*4+1,none⟩=some (.bool y.li)∧w.cell? ⟨b,off+i*4+2,none⟩=some (.int .u8 (y.sh:Int))∧w.cell? ⟨b,off+i*4+3,none⟩=some (.int .u8 (y.id:Int))
theorem Act21s.keep {w w':World} {B:Nat} {A:Option Addr} {T:List Act21} (h:Act21s w B A T) (hb:Below B w w'):Act21s w' B A T:=fun i y hy=>by
 obtain⟨b,off,h1,h2,q0,q1,q2,q3⟩:=h i y hy
 exact⟨b,off,h1,h2,(hb.cell (p:=⟨b,off+i*4,none⟩) h2).trans q0,(hb.cell (p:=⟨b,off+i*4+1,none⟩) h2).trans q1,(hb.cell (p:=⟨b,off+i*4+2,none⟩) h2).trans q2,(hb.cell (p:=⟨b,off+i*4+3,none⟩) h2).trans q3⟩
theorem Act21s.of {fuel:Nat} {a0:Option Addr} {len cap:Nat} {x:DataW H×List MemPlace} (h:DataW.trod enc Tryz.prog W base spare held fuel 22 [.slice a0 len cap]=some x):
  ∃L:List Act21,L.length=len∧Act21s W W.heap.size a0 L∧(∀y∈L,y.fine)∧len≤9223372036854775807:=by
 obtain⟨L,h1,h2,h3⟩:=row_of 4 Act21.cells Act21.fine Tryz.underlying22 cellsAct21 (fun y=>by simp [Act21.cells]) (fun f cs x hv=>Act21.of hv) h
 refine⟨L,h1,fun i y hy=>?_,fun y hy=>by obtain⟨i,hi⟩:=List.mem_iff_getElem?.1 hy;exact (h2 i y hi).2,h3⟩
 obtain⟨⟨b,off,e1,e2,e3⟩,_⟩:=h2 i y hy
 exact⟨b,off,e1,e2,e3 0 _ rfl,e3 1 _ rfl,e3 2 _ rfl,e3 3 _ rfl⟩
end
end Go.Proofs.YtckjkndegjklnaaGreatDoor.svr
