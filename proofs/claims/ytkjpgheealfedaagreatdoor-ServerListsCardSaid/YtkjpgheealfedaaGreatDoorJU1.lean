import Derived.Test.YtkjpgheealfedaaGreatDoorJXJ
set_option maxRecDepth 100000
namespace Go.Proofs.YtkjpgheealfedaaGreatDoor.uni
open Go.RowKit words ext name tre stk Go.Proofs.YtkjpgheealfedaaGreatDoor.seen wlk

def dirN:Nd:= .mk 2 false [] [] 0 [] ⟨#[]⟩
def hdN:List Nd→Nd
 |[]=>dirN
 |d::_=>d
structure An where
 e:Int
 k:Int
 z:Int
 wh:Int
 x:List UInt8
def Here (R:List Nd) (ns:List ByteArray) (E:List Nd):Prop:=Along (D0 R) ns E∧(ns≠[]→E≠[])
theorem Here.up {R:List Nd} {ns:List ByteArray} {E:List Nd} (h:Here R ns E):∃F,Here R (ns.take (ns.length - 1)) F:=by
 rcases List.eq_nil_or_concat ns with rfl |⟨ms,p,rfl⟩
 ·exact⟨E,h⟩
 ·rw [List.concat_eq_append] at h ⊢
  obtain⟨h1,h2⟩:=h;obtain⟨F,Q,g1,g2,rfl⟩:=h1.pre;have e:(ms++[p]).take ((ms++[p]).length - 1)=ms:=by simp
  rw [e];refine⟨F,g1,fun _ hF=>?_⟩;subst hF;have hQ:Q=[]:=g2;subst hQ;exact h2 (by simp) rfl
theorem Jpj {R:List Nd} (hg:∀t∈R,allB t=true) {f:Bool} {ns ps:List ByteArray} {h:Nat} {o:AtO} (H:Leads R f ns ps h o):(∃D,Here R ns D)→∀ns' E,o= .ok ns' E→Here R ns' E:=by
 induction H with
 |done a=>
  rintro⟨D,h1,h2⟩ ns' E he;injection he with e1 e2;subst e1;subst e2;obtain rfl:=a.uniq (wlk.Good.root hg) h1;exact⟨a,h2⟩
 |up _ ih=>
  rintro⟨D,h1⟩;exact ih h1.up
 |none=>intro _ ns' E he;cases he
 |dir _ hD hQ hs _ _ ih=>
  intro _;refine ih ⟨_,hD.snoc hQ,fun _=>?_⟩;rw [hs];simp
 |loop=>intro _ ns' E he;cases he
 |@hop ns _ _ _ D _ d _ _ _ _ hD _ _ _ _ _ _ ih=>
  rintro⟨F,h1⟩;refine ih ?_;split
  ·exact⟨D0 R,rfl,fun h=>absurd rfl h⟩
  ·exact⟨F,h1⟩
 |not=>intro _ ns' E he;cases he
 |leaf _ hD hQ hs _ _=>
  intro _ ns' E he;injection he with e1 e2;subst e1;subst e2;have h1:=hD.snoc hQ;rw [hs] at h1;exact⟨h1,fun _=>by simp⟩
theorem Jm8 {R:List Nd} (hg:∀t∈R,allB t=true) {f:Bool} {s:ByteArray} {ns:List ByteArray} {E:List Nd} (h:Goes R f s (.ok ns E)):Here R ns E:=by
 rcases h with⟨_,h⟩ |⟨_,_,h⟩
 ·cases h
 ·exact Jpj hg h ⟨D0 R,rfl,fun h=>absurd rfl h⟩ ns E rfl
theorem Here.good {R:List Nd} (hg:∀t∈R,allB t=true) {ns:List ByteArray} {E:List Nd} (h:Here R ns E) (hne:E≠[]):allB (hdN E)=true:=by
 obtain⟨d,E',rfl⟩:=List.exists_cons_of_ne_nil hne;exact h.1.good (wlk.Good.root hg) d (List.mem_cons_self ..)
theorem Here.len {R:List Nd} (hk:∀d∈R,depth d<100) {ns:List ByteArray} {E:List Nd} (h:Here R ns E):ns.length≤100:=by
 rcases Nat.eq_zero_or_pos ns.length with h0 |h0
 ·omega
 ·obtain⟨d,E',rfl⟩:=List.exists_cons_of_ne_nil (h.2 (fun e=>by rw [e] at h0;simp at h0))
  have:=h.1.deep (k:=100) (fun d hd=>hk d (List.mem_of_mem_take hd)) d (List.mem_cons_self ..);omega
end Go.Proofs.YtkjpgheealfedaaGreatDoor.uni
