import Derived.Test.YtekekhgjobahaaaGreatDoorB1
import Derived.Test.YtekekhgjobahaaaGreatDoorH0
set_option maxRecDepth 100000
open Go.Proofs.Tryz
namespace Go.Proofs.YtekekhgjobahaaaGreatDoor.tre
open Go.RowKit words ext name

theorem ExtIn.exts {w:World} {P:Nat→Prop} {B:Nat} {A:Option Addr} {L:List Ex} (h:ExtIn w P A L) (hP:∀b,P b→b<B):Exts w B A L:=fun i x hx=>by
 obtain⟨⟨b,off,h1,h2,h3,h3'⟩,h4⟩:=h i x hx;exact⟨⟨b,off,h1,hP b h2,h3,h3'⟩,h4⟩
theorem Jba {α:Type} {i:Nat} {x:α} (h:([]:List α)[i]?=some x):False:=by simp at h
def whiteN:Nd:= .mk 4 false [] [] 0 [] ⟨#[]⟩
def textN (s:ByteArray):Nd:= .mk 1 false [] [] (s.size:Int) (ofB s) ⟨#[]⟩
def dirN (N:List ByteArray) (I:List Nd):Nd:= .mk 2 false N I 0 [] ⟨#[]⟩
theorem fit0 (K:Int) (t:ByteArray) (h1: -9223372036854775808≤K) (h2:K≤9223372036854775807) (ht:t.size≤140737488355328):Fit (.mk K false [] [] 0 [] t) raw0:=
 ⟨h1,h2,show (-9223372036854775808:Int)≤0 by decide,show (0:Int)≤9223372036854775807 by decide,ht,show 0*16≤140737488355328 by decide,show 0*112≤140737488355328 by decide,show 0*24≤140737488355328 by decide,Nat.zero_le _,Nat.zero_le _,Nat.zero_le _,fun _=>⟨rfl,rfl⟩,fun _=>⟨rfl,rfl⟩,fun _=>⟨rfl,rfl⟩⟩
theorem Jv1 (w:World) (g:Nat) (n:Nd) (q:Raw):((((((w.setCell ⟨g,0,none⟩ (.int .i64 n.K)).setCell ⟨g,1,none⟩ (.bool n.O)).setCell ⟨g,2,none⟩ (.slice q.An n.N.length q.cn)).setCell ⟨g,3,none⟩ (.slice q.Ai n.I.length q.ci)).setCell ⟨g,4,none⟩ (.int .i64 n.S)).setCell ⟨g,5,none⟩ (.slice q.Ae n.E.length q.ce)).setCell ⟨g,6,none⟩ (.string n.T)=w.setCells g 0 (rawCells n q).toList:=rfl


def Sees (w' W1:World) (g:Nat) (n:Nd) (r:Raw):Prop:=
 w'.cell? ⟨g,0,none⟩=some (.int .i64 n.K)∧w'.cell? ⟨g,1,none⟩=some (.bool n.O)∧w'.cell? ⟨g,2,none⟩=some (.slice r.An n.N.length r.cn)∧
  w'.cell? ⟨g,3,none⟩=some (.slice r.Ai n.I.length r.ci)∧w'.cell? ⟨g,4,none⟩=some (.int .i64 n.S)∧w'.cell? ⟨g,5,none⟩=some (.slice r.Ae n.E.length r.ce)∧w'.cell? ⟨g,6,none⟩=some (.string n.T)∧Below W1.heap.size W1 w'
theorem Box.sees {w' W1:World} {g:Nat} {n:Nd} {r:Raw} (h:Box W1 g n r) (hb:Below W1.heap.size W1 w'):Sees w' W1 g n r:=by
 obtain⟨b0,b1,b2,b3,b4,b5,b6⟩:=(h.below hb).cells;exact⟨b0,b1,b2,b3,b4,b5,b6,hb⟩
theorem Jnt (c:Int) (n:Nd) (r:Raw) (w:World) (hN:NdAt w w.heap.size n r) (hc:(if smallB n=true then 1 else 0:Int)=c):
  Calls prog 17 #[ndV n r] w fun e w'=>e= .returned (.int .i64 c)∧Below w.heap.size w w':=
 (Jo8 n r w hN).mono fun _ _ ⟨he,hw⟩=>⟨by rw [he,hc],hw⟩


def ab:ByteArray:=⟨#[97]⟩
def bb:ByteArray:=⟨#[98]⟩
def xb:ByteArray:=⟨#[120]⟩
def As (n:Nd) (v:Raw→Value) (w:World) (e:Ending) (w':World):Prop:=∃r',e= .returned (v r')∧NdAt w' w'.heap.size n r'∧Below w.heap.size w w'
end Go.Proofs.YtekekhgjobahaaaGreatDoor.tre
