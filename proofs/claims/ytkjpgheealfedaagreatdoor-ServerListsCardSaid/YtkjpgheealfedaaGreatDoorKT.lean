import Derived.Test.YtkjpgheealfedaaGreatDoorJK
set_option maxRecDepth 100000
open Go.Proofs.Tryz
namespace Go.Proofs.YtkjpgheealfedaaGreatDoor.wlk
open Go.ChangeShapes Go.WideShapes Go.RowKit words ext name tre stk

theorem cellsCase:Tryz.prog.cellsOf 24=3:=by kernel_rfl
theorem Jke {α:Type} {l:List α} (h:l.length=3):∃a b c,l=[a,b,c]:=by
 match l,h with
 |[a,b,c],_=>exact⟨a,b,c,rfl⟩
theorem case_of {H:Type} {enc:TypeId×Value→H} {W:World} {base:Nat} {spare:Nat→Bool} {held:Bool} {fuel:Nat} {cs:List Value} {x:DataW H×List MemPlace}
  (h:DataW.trod enc prog W base spare held fuel 24 cs=some x) (hs:Sized 24 x.1):
  ∃(a:Option Addr) (T:List Nd) (c:Nat) (s:ByteArray) (f:Bool) (rs:Nat→Raw),cs=[.slice a T.length c,.string s,.bool f]∧Trees W W.heap.size a T rs∧T.length*112≤140737488355328∧s.size≤140737488355328:=by
 obtain⟨xs,m,hfu,hxe,hlen,hxl,hf⟩:=DataW.trod_struct underlying24 h;rw [cellsCase] at hlen;obtain⟨c0,c1,c2,rfl⟩:=Jke hlen;obtain⟨x0,x1,x2,rfl⟩:=Jke hxl;have sz:∀(j:Nat) (t:TypeId) (d:DataW H),([22,9,4]:List TypeId)[j]?=some t→([x0.1,x1.1,x2.1]:List (DataW H))[j]?=some d→Sized t d:=fun j t d ht hd k hk=>hs k (by
   rw [hxe];simp only [DataW.weights,underlying24];exact DataW.weights_mem_each (j:=j) ht hd k hk)
 have g0:DataW.trod enc prog W base spare held m 22 (([c0,c1,c2].drop 0).take (Tryz.prog.cellsOf 22))=some x0:=hf 0 _ rfl;have g1:DataW.trod enc prog W base spare held m 9 (([c0,c1,c2].drop 1).take (Tryz.prog.cellsOf 9))=some x1:=hf 1 _ rfl;have g2:DataW.trod enc prog W base spare held m 4 (([c0,c1,c2].drop 2).take (Tryz.prog.cellsOf 4))=some x2:=hf 2 _ rfl;rw [cellsNodes] at g0;rw [cellsStr] at g1;rw [cellsBool] at g2;obtain⟨a,l,c,rfl⟩:=Jd5 underlying22 (show DataW.trod enc prog W base spare held m 22 [c0]=some x0 from g0);obtain⟨s,e1,e1',_⟩:=DataW.trod_string underlying9 (show DataW.trod enc prog W base spare held m 9 [c1]=some x1 from g1);obtain⟨f,e2,_⟩:=DataW.trod_bool underlying4 (show DataW.trod enc prog W base spare held m 4 [c2]=some x2 from g2);obtain⟨T,rfl,rs,hT,hl,_,_⟩:=Jpw (show DataW.trod enc prog W base spare held m 22 [.slice a l c]=some x0 from g0) (sz 0 _ _ rfl rfl);have hsz:s.size≤140737488355328:=Jds (by rw [e1']) (sz 1 _ _ rfl rfl);injection e1 with e1 _;injection e2 with e2 _;exact⟨a,T,c,s,f,rs,by rw [e1,e2],hT,hl,hsz⟩
end Go.Proofs.YtkjpgheealfedaaGreatDoor.wlk
