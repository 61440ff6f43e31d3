/- That the nodes of a place are the document's directories. Conditions: the place, the stack and the directories lie in memory, and hang together. That what is seen in a place, and in all places in it, is the document's. Conditions: the place, the stack, the directories and the names lie in memory, and hang together. The law SeenAll: of any branches, one upon the other, what is seen by any name, wherever one comes, is the document's. Conditions: the trees and the names lie in memory; the library's MaxLen holds a number. -/
import Derived.Test.YtckjkndegjklnaaGreatDoorJN
import Derived.Laws.StructEq
namespace Go.Proofs.YtckjkndegjklnaaGreatDoor.seen
set_option maxRecDepth 100000
open Go.RowKit words ext name tre stk


def Tail (R:List Nd) (d:Nd) (x:Nat×Nat) (S:List Nd) (Af:Option Addr) (nf:Nat) (w':World):Prop:=
 (d.K≠2∧nf=0)∨(d.K=2∧∃Q,nf=Q.length∧Ats R Q S∧Up Q∧Q[0]?=some x∧(∀d∈S,d.K=2)∧Plc w' w'.heap.size Af Q)
theorem Tail.later {R:List Nd} {d:Nd} {x:Nat×Nat} {S:List Nd} {Af:Option Addr} {nf:Nat} {w w':World} (h:Tail R d x S Af nf w) (hb:Below w.heap.size w w'):Tail R d x S Af nf w':=by
 rcases h with h |⟨h1,Q,h2,h3,h4,h5,h6,h7⟩
 ·exact .inl h
 ·exact .inr ⟨h1,Q,h2,h3,h4,h5,h6,(h7.keep hb).more hb.size⟩
def Sees (R:List Nd) (P:List (Nat×Nat)) (D:List Nd) (s:ByteArray) (Q':List Nd) (w:World) (en:Ending) (w':World):Prop:=
 ((seenOf Q'=[]∧en= .returned (.tuple #[.agg #[.int .i64 0,.int .i64 0,.int .i64 0,.slice none 0 0],.bool false]))∨
  (∃lv nd d Af nf cf,(seenOf Q')[0]?=some d∧At R (lv,nd) d∧Top P D s (lv,nd)∧Tail R d (lv,nd) (seenOf Q') Af nf w'∧en= .returned (.tuple #[.agg #[.int .i64 d.K,.int .i64 (lv:Int),.int .i64 (nd:Int),.slice Af nf cf],.bool true])))∧Below w.heap.size w w'
theorem Saw.sees {R:List Nd} {P:List (Nat×Nat)} {D:List Nd} {s:ByteArray} {Q':List Nd} {w w':World} {en:Ending} (h:Saw R P D s Q' w en w'):Sees R P D s Q' w en w':=by
 obtain⟨h,hb⟩:=h
 refine⟨?_,hb⟩
 rcases h with⟨h1,rfl⟩ |⟨⟨lv,nd⟩,d,h1,h2,h3,h4,rfl⟩ |⟨⟨lv,nd⟩,d,Q,A,c,h1,h2,h3,h4,h5,h6,h7,h8,rfl,h9,_⟩
 ·exact .inl ⟨h1,rfl⟩
 ·exact .inr ⟨lv,nd,d,none,0,0,by rw [h1];rfl,h2,h4,.inl ⟨by omega,rfl⟩,rfl⟩
 ·exact .inr ⟨lv,nd,d,A,Q.length,c,h1,h2,h4,.inr ⟨h3,Q,rfl,h5,h6,h7,h8,h9⟩,rfl⟩

theorem infoStr:(Tryz.prog.info? 9).map (fun i=>(i.zero,i.size,i.bytes))=some (some (.string ⟨#[]⟩),1,16):=by kernel_rfl
theorem Jgl (A:Option Addr) (n cap i:Nat) (h:i≤cap) (wx:World):
  (Instr.slice 42 (.slice A n cap) none (some (.int .i64 (i:Int))) none).run Tryz.prog wx= .ok (.slice A i cap) wx:=by
 obtain⟨i0,hi,hz0,hz1,hz2⟩:=info_parts infoStr
 have he:Tryz.prog.elem 42=9:=by kernel_rfl
 rw [run_slice_h (P:=Tryz.prog) wx 42 A n cap (by kernel_rfl) .i64 (i:Int) (by omega) (by omega),he]
 simp [sizeOf,typeInfo,hi,hz1,Result.andThen,sliced]
 rcases A with _ |A
 ·intro _;rfl
 ·simp [Addr.add]
theorem Jnp {R:List Nd}:(rootP (tabs R)).length≤R.length:=by
 rw [Jax]
 have:=Jco (tabs R) (roots (tabs R).length)
 rw [Jai,Ja9] at this
 rw [Ja9]
 exact this
end Go.Proofs.YtckjkndegjklnaaGreatDoor.seen
