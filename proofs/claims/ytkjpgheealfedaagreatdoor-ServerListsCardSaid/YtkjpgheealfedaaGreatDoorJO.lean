import Derived.Test.YtkjpgheealfedaaGreatDoorJN
set_option maxRecDepth 100000
open Go.Proofs.Tryz
namespace Go.Proofs.YtkjpgheealfedaaGreatDoor.seen
open Go.RowKit words ext name tre stk


def Tail (R:List Nd) (d:Nd) (x:Nat×Nat) (S:List Nd) (Af:Option Addr) (nf:Nat) (w':World):Prop:=
 (d.K≠2∧nf=0)∨(d.K=2∧∃Q,nf=Q.length∧Ats R Q S∧Up Q∧Q[0]?=some x∧(∀d∈S,d.K=2)∧Plc w' w'.heap.size Af Q)
theorem Tail.later {R:List Nd} {d:Nd} {x:Nat×Nat} {S:List Nd} {Af:Option Addr} {nf:Nat} {w w':World} (h:Tail R d x S Af nf w) (hb:Below w.heap.size w w'):Tail R d x S Af nf w':=by
 rcases h with h |⟨h1,Q,h2,h3,h4,h5,h6,h7⟩
 ·exact .inl h
 ·exact .inr ⟨h1,Q,h2,h3,h4,h5,h6,(h7.keep hb).more hb.size⟩
def Sees (R:List Nd) (P:List (Nat×Nat)) (D:List Nd) (s:ByteArray) (Q':List Nd) (w:World) (en:Ending) (w':World):Prop:=
 ((seenOf Q'=[]∧en= .returned (.tuple #[.agg #[.int .i64 0,.int .i64 0,.int .i64 0,.slice none 0 0],.bool false]))∨
  (∃lv nd d Af nf cf,(seenOf Q')[0]?=some d∧At R (lv,nd) d∧Top P D s (lv,nd)∧Tail R d (lv,nd) (seenOf Q') Af nf w'∧en= .returned (.tuple #[.agg #[.int .i64 d.K,.int .i64 (lv:Int),.int .i64 (nd:Int),.slice Af nf cf],.bool true])))∧Below w.heap.size w w'
theorem Saw.sees {R:List Nd} {P:List (Nat×Nat)} {D:List Nd} {s:ByteArray} {Q':List Nd} {w w':World} {en:Ending} (h:Saw R P D s Q' w en w'):Sees R P D s Q' w en w':=by
 obtain⟨h,hb⟩:=h;refine⟨?_,hb⟩;rcases h with⟨h1,rfl⟩ |⟨⟨lv,nd⟩,d,h1,h2,h3,h4,rfl⟩ |⟨⟨lv,nd⟩,d,Q,A,c,h1,h2,h3,h4,h5,h6,h7,h8,rfl,h9,_⟩
 ·exact .inl ⟨h1,rfl⟩
 ·exact .inr ⟨lv,nd,d,none,0,0,by rw [h1];rfl,h2,h4,.inl ⟨by omega,rfl⟩,rfl⟩
 ·exact .inr ⟨lv,nd,d,A,Q.length,c,h1,h2,h4,.inr ⟨h3,Q,rfl,h5,h6,h7,h8,h9⟩,rfl⟩

theorem infoStr:(Tryz.prog.info? 9).map (fun i=>(i.zero,i.size,i.bytes))=some (some (.string ⟨#[]⟩),1,16):=by kernel_rfl
theorem Jir (A:Option Addr) (n cap i:Nat) (h:i≤cap) (wx:World):
  (Instr.slice 47 (.slice A n cap) none (some (.int .i64 (i:Int))) none).run prog wx= .ok (.slice A i cap) wx:=by
 obtain⟨i0,hi,hz0,hz1,hz2⟩:=info_parts infoStr;have he:Tryz.prog.elem 47=9:=by kernel_rfl
 rw [run_slice_h (P:=prog) wx 47 A n cap (by kernel_rfl) .i64 (i:Int) (by omega) (by omega),he];simp [sizeOf,typeInfo,hi,hz1,Result.andThen,sliced];rcases A with _ |A
 ·intro _;rfl
 ·simp [Addr.add]
structure Fine (R:List Nd):Prop where
 all:∀t∈R,allB t=true
 dirs:∀t∈R,t.K=2
 deep:∀t∈R,depth t≤30
theorem Job {w:World} {B:Nat} {A:Option Addr} {T:List Nd} {rs:Nat→Raw} (hT:Trees w B A T rs) (hm:mayB T=true):Fine T:=by
 have key:∀t∈T,Okay t:=fun t ht=>by
  obtain⟨i,hi⟩:=List.mem_iff_getElem?.1 ht;exact Jjs (Jc1 hm t ht).1 (hT i t hi).2.tame (Jc1 hm t ht).2
 exact⟨fun t ht=>(key t ht).all,fun t ht=>by
   have h:=(Jc1 hm t ht).2;unfold treeB at h;simp only [Bool.and_eq_true,beq_iff_eq] at h;exact h.1,fun t ht=>(key t ht).dep⟩
theorem Fine.rev {T:List Nd} (h:Fine T):Fine T.reverse:=⟨fun t ht=>h.all t (List.mem_reverse.1 ht),fun t ht=>h.dirs t (List.mem_reverse.1 ht),fun t ht=>h.deep t (List.mem_reverse.1 ht)⟩
theorem Jqp {R:List Nd}:(rootP (tabs R)).length≤R.length:=by
 rw [Ja5];have:=Jdh (tabs R) (roots (tabs R).length);rw [Jal,Jbo] at this;rw [Jbo];exact this
end Go.Proofs.YtkjpgheealfedaaGreatDoor.seen
