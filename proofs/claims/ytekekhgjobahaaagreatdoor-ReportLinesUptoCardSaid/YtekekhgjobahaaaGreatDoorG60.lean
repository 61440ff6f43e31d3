import Derived.Test.YtekekhgjobahaaaGreatDoorRows
import Derived.Test.YtekekhgjobahaaaGreatDoorG3
import Derived.ProofKit
import Derived.OpenShut
import Derived.Deep.Slices
set_option maxRecDepth 100000
open Go.Proofs.Tryz
namespace Go.Proofs.YtekekhgjobahaaaGreatDoor.pln
open Go.ChangeShapes Go.WideShapes Go.RowKit words lru

theorem two {α:Type} {l:List α} (h:l.length=2):∃a b,l=[a,b]:=by
 match l,h with
 |[a,b],_=>exact⟨a,b,rfl⟩
section
variable {H:Type} {enc:TypeId×Value→H} {W:World} {base:Nat} {spare:Nat→Bool} {held:Bool}
theorem cellsInt:Tryz.prog.cellsOf 3=1:=by kernel_rfl
theorem cellsStr:Tryz.prog.cellsOf 9=1:=by kernel_rfl
theorem cellsBool:Tryz.prog.cellsOf 4=1:=by kernel_rfl
def big (x:Int):Prop:= -9223372036854775808≤x∧x≤9223372036854775807
theorem Ji4 {n:Int} (h:(Lit.int .i64 n).wf=true):big n:=by
 simp [Lit.wf,IntKind.min,IntKind.max,IntKind.signed,IntKind.bits] at h;unfold big;omega
theorem row_of {fuel:Nat} {a0:Option Addr} {len cap:Nat} {e t:TypeId} {α:Type} [Inhabited α] (m:Nat) (C:α→List Value) (Q:α→Prop) (hu:Tryz.prog.underlying t=some (.slice e)) (hm0:Tryz.prog.cellsOf e=m) (hpos:∀y,0<(C y).length∧(C y).length≤m)
  (hone:∀(f:Nat) (cs:List Value) x,DataW.trod enc prog W base spare held f e cs=some x→∃y,cs=C y∧Q y) {x:DataW H×List MemPlace} (h:DataW.trod enc prog W base spare held fuel t [.slice a0 len cap]=some x):
  ∃L:List α,L.length=len∧(∀i y,L[i]?=some y→(∃b off,a0=some ⟨b,off,none⟩∧b<W.heap.size∧∀j v,(C y)[j]?=some v→W.cell? ⟨b,off+i*m+j,none⟩=some v)∧Q y)∧len≤9223372036854775807:=by
 rcases Deep.open_slice hu h with⟨hc,_⟩ |⟨a,l,c,mm,n,D,Pl,hc,_,hl,hm,hmm,_,hi⟩
 ·simp at hc
  obtain⟨rfl,rfl,rfl⟩:=hc;exact⟨[],rfl,fun i x hx=>by simp at hx,by omega⟩
 ·simp at hc
  obtain⟨rfl,rfl,rfl⟩:=hc;have hlm:len≤mm:=by rw [hmm];split<;>omega
  have each:∀i,i<len→∃y:α,Q y∧∀j v,(C y)[j]?=some v→W.cell? ((a.add (i*m)).add j)=some v:=fun i hlt=>by
   obtain⟨cs,hcs,ht⟩:=hi i (by omega);rw [hm0] at hcs;obtain⟨y,rfl,hq⟩:=hone _ _ _ ht;obtain⟨_,_,hat⟩:=World.cells?_some hcs;exact⟨y,hq,fun j v hj=>(hat j (by have:=(List.getElem?_eq_some_iff.1 hj).1;have:=(hpos y).2;omega)).trans hj⟩
  obtain⟨f,hfl⟩:=Deep.choose_lt each;refine⟨(List.range len).map f,by simp,fun i x hx=>?_,by unfold maxLen at hm;omega⟩;have hlt:i<len:=by
   have:=(List.getElem?_eq_some_iff.1 hx).1;simpa using this
  have hxe:x=f i:=by
   rw [List.getElem?_map,List.getElem?_range hlt] at hx;simpa using hx.symm
  subst hxe;obtain⟨b,off,spot⟩:=a;obtain⟨v0,hv0⟩:∃v,(C (f 0))[0]?=some v:=⟨_,List.getElem?_eq_getElem (hpos _).1⟩
  have h0:=(hfl 0 (by omega)).2 0 _ hv0;have hspot:spot=none:=by simpa [Addr.add] using World.cell?_spot h0
  subst hspot;have hcell:=(hfl i hlt).2;simp only [add_place] at hcell;obtain⟨v1,hv1⟩:∃v,(C (f i))[0]?=some v:=⟨_,List.getElem?_eq_getElem (hpos _).1⟩
  exact⟨⟨b,off,rfl,World.block_lt_of_cell? W _ (hcell 0 _ hv1),hcell⟩,(hfl i hlt).1⟩
instance:Inhabited ByteArray:=⟨⟨#[]⟩⟩
def OneRow {α:Type} (V:α→Value) (w:World) (B:Nat) (A:Option Addr) (T:List α):Prop:=∀i x,T[i]?=some x→∃b off,A=some ⟨b,off,none⟩∧b<B∧w.cell? ⟨b,off+i,none⟩=some (V x)
theorem OneRow.keep {α:Type} {V:α→Value} {w w':World} {B:Nat} {A:Option Addr} {T:List α} (h:OneRow V w B A T) (hb:Below B w w'):OneRow V w' B A T:=fun i x hx=>by
 obtain⟨b,off,h1,h2,h3⟩:=h i x hx;exact⟨b,off,h1,h2,(hb.cell (p:=⟨b,off+i,none⟩) h2).trans h3⟩
theorem Jkj {fuel:Nat} {a0:Option Addr} {len cap:Nat} {x:DataW H×List MemPlace} (h:DataW.trod enc prog W base spare held fuel 27 [.slice a0 len cap]=some x):∃L:List ByteArray,L.length=len∧OneRow Value.string W W.heap.size a0 L∧(∀y∈L,y.size≤9223372036854775807)∧len≤9223372036854775807:=by
 obtain⟨L,h1,h2,h3⟩:=row_of 1 (fun s:ByteArray=>[Value.string s]) (fun s=>s.size≤9223372036854775807) underlying27 cellsStr (fun y=>by simp) (fun f cs x hv=>by
   obtain⟨s,hs,_,hz⟩:=DataW.trod_string underlying9 hv;exact⟨s,hs,by unfold maxLen at hz;exact hz⟩) h
 exact⟨L,h1,fun i y hy=>by
   obtain⟨⟨b,off,e1,e2,e3⟩,_⟩:=h2 i y hy;exact⟨b,off,e1,e2,by have:=e3 0 _ rfl;rwa [Nat.mul_one,Nat.add_zero] at this⟩,fun y hy=>by obtain⟨i,hi⟩:=List.mem_iff_getElem?.1 hy;exact (h2 i y hi).2,h3⟩
theorem cellsPair:Tryz.prog.cellsOf 53=2:=by kernel_rfl
theorem pair_of {fuel:Nat} {cs:List Value} {z:DataW H×List MemPlace} (h:DataW.trod enc prog W base spare held fuel 53 cs=some z):
  ∃x y:Int,cs=[.int .i64 x,.int .i64 y]∧big x∧big y:=by
 obtain⟨xs,n,_,_,hlen,hxl,hf⟩:=DataW.trod_array underlying53 h;rw [cellsPair] at hlen;obtain⟨c0,c1,rfl⟩:=two hlen;obtain⟨x0,x1,rfl⟩:=two hxl;have g0:=hf 0 (by omega);have g1:=hf 1 (by omega);rw [cellsInt] at g0 g1;obtain⟨X,e0,_,w0⟩:=DataW.trod_int underlying3 (show DataW.trod enc prog W base spare held n 3 [c0]=some x0 from g0);obtain⟨Y,e1,_,w1⟩:=DataW.trod_int underlying3 (show DataW.trod enc prog W base spare held n 3 [c1]=some x1 from g1);exact⟨X,Y,by simp_all,Ji4 w0,Ji4 w1⟩
end
end Go.Proofs.YtekekhgjobahaaaGreatDoor.pln
