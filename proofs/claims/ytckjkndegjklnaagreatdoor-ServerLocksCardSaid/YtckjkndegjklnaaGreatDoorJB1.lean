/- A slice of extents as it is read in a walk: two cells an extent. No condition. -/
import Derived.Test.YtckjkndegjklnaaGreatDoorProg
import Derived.Test.YtckjkndegjklnaaGreatDoorJA
import Derived.WalkKit
import Derived.WalkSpells
import Derived.WalkLawsBesides
import Derived.Outline
import Derived.LoopTactic
import Derived.Deep.QuietTactic
import Derived.BigQuiet
import Derived.Lib.Hide
import Derived.Lib.Strings
import Derived.IntWalk
namespace Go.Proofs.YtckjkndegjklnaaGreatDoor.ext
set_option maxRecDepth 100000
open Go.RowKit words

theorem size_list (s:ByteArray):s.data.toList.length=s.size:=by rw [Array.length_toList];rfl
theorem to_list (s:ByteArray):s.toList=s.data.toList:=ByteArray.toList_eq s

def Exts (w:World) (B:Nat) (A:Option Addr) (L:List Ex):Prop:=
 ∀i x,L[i]?=some x→(∃b off,A=some ⟨b,off,none⟩∧b<B∧w.cell? ⟨b,off+i*2,none⟩=some (.int .i64 x.O)∧w.cell? ⟨b,off+i*2+1,none⟩=some (.string x.D))∧
  -9223372036854775808≤x.O∧x.O≤9223372036854775807∧x.D.size≤140737488355328
theorem Exts.keep {w w':World} {B:Nat} {A:Option Addr} {L:List Ex} (h:Exts w B A L) (hb:Below B w w'):Exts w' B A L:=fun i x hx=>by
 obtain⟨⟨b,off,hA,hB,c0,c1⟩,h1⟩:=h i x hx
 exact⟨⟨b,off,hA,hB,(hb.cell (p:=⟨b,off+i*2,none⟩) hB).trans c0,(hb.cell (p:=⟨b,off+i*2+1,none⟩) hB).trans c1⟩,h1⟩
theorem Exts.more {w:World} {B B':Nat} {A:Option Addr} {L:List Ex} (h:Exts w B A L) (hB':B≤B'):Exts w B' A L:=fun i x hx=>by
 obtain⟨⟨b,off,hA,hB,c⟩,h1⟩:=h i x hx
 exact⟨⟨b,off,hA,Nat.lt_of_lt_of_le hB hB',c⟩,h1⟩
theorem Exts.drewN {w:World} {B:Nat} {A:Option Addr} {L:List Ex} (h:Exts w B A L) (n:Nat):Exts (w.drewN n) B A L:=h
theorem below_drewN {B:Nat} {a w:World} (h:Below B a w) (n:Nat):Below B a (w.drewN n):=⟨h.os,h.tape,h.output,h.size,h.block⟩
theorem Exts.drop {w:World} {B:Nat} {A:Option Addr} {L:List Ex} (h:Exts w B A L) {b off:Nat} (hA:A=some ⟨b,off,none⟩) (k:Nat):Exts w B (some ⟨b,off+k*2,none⟩) (L.drop k):=fun i x hx=>by
 rw [List.getElem?_drop] at hx
 obtain⟨⟨b',off',hA',hB,c0,c1⟩,h1⟩:=h (k+i) x hx
 rw [hA] at hA'
 injection hA' with e
 injection e with e1 e2
 subst e1 e2
 rw [show off+(k+i)*2=off+k*2+i*2 by omega] at c0 c1
 exact⟨⟨b,off+k*2,rfl,hB,c0,c1⟩,h1⟩
def exCells (L:List Ex):List Value:=L.flatMap fun x=>[.int .i64 x.O,.string x.D]
theorem Jcg (L:List Ex):(exCells L).length=L.length*2:=by
 induction L with
 |nil=>rfl
 |cons x L ih=>
  show (([.int .i64 x.O,.string x.D]:List Value)++exCells L).length=_
  rw [List.length_append,ih,List.length_cons]
  simp
  omega
theorem Jb8:∀{L:List Ex} {i:Nat} {x:Ex},L[i]?=some x→(exCells L)[i*2]?=some (.int .i64 x.O)∧(exCells L)[i*2+1]?=some (.string x.D)
 |[],i,x,h=>by simp at h
 |y::L,0,x,h=>by
  obtain rfl:y=x:=by simpa using h
  exact⟨rfl,rfl⟩
 |y::L,i+1,x,h=>by
  have:=Jb8 (L:=L) (i:=i) (x:=x) (by simpa using h)
  rw [show (i+1)*2=i*2+2 by omega]
  exact this
theorem Jmw (L M:List Ex):exCells (L++M)=exCells L++exCells M:=by simp [exCells]
theorem Exts.of_own {w:World} {base:Nat} {e:TypeId} {A:Option Addr} {n c:Nat} {L:List Ex} (hn:n=L.length) (h:w.ownsRow base e 2 (.slice A n c) n (exCells L))
  (hL:∀x∈L,-9223372036854775808≤x.O∧x.O≤9223372036854775807∧x.D.size≤140737488355328):Exts w w.heap.size A L:=fun i x hx=>by
 subst hn
 have hlt:i<L.length:=(List.getElem?_eq_some_iff.1 hx).1
 obtain⟨g,cap,hv,_,hg⟩:=h.form (by omega)
 injection hv with hA _ hc
 subst hA hc
 obtain⟨e0,e1⟩:=Jb8 hx
 have hcells:=h.cells (g:=g) rfl
 have add0:∀j,(⟨g,0,none⟩:Addr).add j=⟨g,j,none⟩:=fun j=>by unfold Addr.add;split<;>simp_all
 refine⟨⟨g,0,rfl,hg,?_,?_⟩,hL x (List.mem_of_getElem? hx)⟩
 ·have:=hcells _ _ e0
  rwa [add0,←Nat.zero_add (i*2)] at this
 ·have:=hcells _ _ e1
  rwa [add0,show i*2+1=0+i*2+1 by omega] at this
end Go.Proofs.YtckjkndegjklnaaGreatDoor.ext
