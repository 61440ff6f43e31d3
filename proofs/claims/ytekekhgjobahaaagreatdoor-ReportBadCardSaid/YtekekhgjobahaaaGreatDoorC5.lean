import Derived.Test.YtekekhgjobahaaaGreatDoorB1
import Derived.Laws.AppendOwnNone
set_option maxRecDepth 100000
namespace Go.Proofs.YtekekhgjobahaaaGreatDoor.cat
open Go.RowKit words ext tre

structure Mk (V0:World) (E:TypeId) (sz:Nat) (v:Value) (n:Nat) (xs:List Value) (w:World):Prop where
 own:w.ownsRow V0.heap.size E sz v n xs
 below:Below V0.heap.size V0 w
theorem Mk.later {V0:World} {E:TypeId} {sz n:Nat} {v:Value} {xs:List Value} {w w':World} (h:Mk V0 E sz v n xs w) (hb:Below w.heap.size w w'):Mk V0 E sz v n xs w':=by
 refine⟨⟨h.own.1,?_⟩,h.below.trans (hb.mono h.below.size)⟩;rcases h.own.2 with h0 |⟨g,cap,cur,h1,h2,h3,h4⟩
 ·exact .inl h0
 ·exact .inr ⟨g,cap,cur,h1,h2,(hb.block _ (lt_of_some h3)).trans h3,h4⟩
theorem Mk.start {V0 V:World} (E:TypeId) (sz:Nat) (h:Below V0.heap.size V0 V):Mk V0 E sz (.slice (some ⟨V.heap.size,0,none⟩) 0 0) 0 [] (V.alloc (.cells #[] E)):=
 ⟨World.ownsRow_made V #[] 0 h.size (by decide) (by simp),h.alloc h.size _⟩
theorem lies_new (V:World) (cs:Array Value) (E:TypeId):Lies (V.alloc (.cells cs E)) (some ⟨V.heap.size,0,none⟩) cs.toList:=fun j u hj=>
 ⟨V.heap.size,0,rfl,by simp,by
   rw [Nat.zero_add,cell_of_row _ V.heap.size j cs E (0,0) (heap_alloc_new V _)];simpa using hj⟩
theorem run_cut_hi {P:Program} (t e:TypeId) (z:Value) (sz bytes:Nat) (hu:P.underlying t=some (.slice (P.elem t))) (he:P.elem t=e) (hi:(P.info? e).map (fun i=>(i.zero,i.size,i.bytes))=some (some z,sz,bytes)) (A:Option Addr) (n cap i:Nat) (h:i≤cap) (wx:World):
  (Instr.slice t (.slice A n cap) none (some (.int .i64 (i:Int))) none).run P wx= .ok (.slice A i cap) wx:=by
 obtain⟨i0,hi,hz0,hz1,hz2⟩:=info_parts hi;rw [run_slice_h (P:=P) wx t A n cap hu .i64 (i:Int) (by omega) (by omega),he];simp [sizeOf,typeInfo,hi,hz1,Result.andThen,sliced];rcases A with _ |A
 ·intro _;rfl
 ·simp [Addr.add]
theorem Jyl {P:Program} {o:Oper} {a:Act} {K:Act→World→Prop} {Q:Exit→Act→World→Prop} {V0 w:World} {E:TypeId} {sz n:Nat} {v:Value} {xs:List Value} (hM:Mk V0 E sz v n xs w) (s x:Operand) (t:TypeId)
  (ho:o.op= .call {callee:= .builtin .append,args:=#[s,x],argTypes:=#[t,t]})
  (z:Value) (bytes:Nat) (ht:P.underlying t=some (.slice E)) (hi:(P.info? E).map (fun i=>(i.zero,i.size,i.bytes))=some (some z,sz,bytes)) (hzs:z.cells.size=sz) (hsz:0<sz) (hs:a.eval s=v)
  (A:Option Addr) (m c:Nat) (news:List Value) (hA:A=none→m=0∧c=0) (hx:a.eval x= .slice A m c) (hl:news.length=m*sz) (hnews:Lies w A news) (h1:∀u∈news,u.oneCell'=true)
  (h63:n+m≤maxLen) (hbytes:(n+m)*bytes≤140737488355328) (N:Nat) (X:List Value) (hN:N=n+m) (hX:X=xs++news)
  (h:∀A' c' w',Mk V0 E sz (.slice A' N c') N X w'→(N≤c'∧(A'=none→N=0∧c'=0))→w.grownBy w' v.ownBlock→K (a.put o.dst (.slice A' N c')) w'):Oper.wp P o a w K Q:=by
 subst hN hX;obtain⟨i,hi,hz,hsize,hby⟩:=info_parts hi;have hgo:∀v' w',w'.ownsRow V0.heap.size E sz v' (n+m) (xs++news)→w.grownBy w' v.ownBlock→K (a.put o.dst v') w':=fun v' w' k1 k2=>by
  obtain⟨A',c',rfl,q1,q2⟩:=own_facts k1;exact h A' c' w' ⟨k1,keep_grown hM.below hM.own k2 (Nat.le_refl _) (Nat.le_refl _)⟩ ⟨q1,q2⟩ k2
 rcases A with _ |ad
 ·obtain⟨rfl,rfl⟩:=hA rfl
  have hn:news=[]:=List.eq_nil_of_length_eq_zero (by rw [hl,Nat.zero_mul]);have hrun:=run_append_owned_none (P:=P) (w:=w) V0.heap.size t o.type E i sz ht hi v n xs hM.own;have hh:=hgo v w (by rw [hn,List.append_nil,Nat.add_zero];exact hM.own) ⟨rfl,rfl,rfl,Nat.le_refl _,fun _ _ _=>rfl⟩;unfold Oper.wp;simp [execOp,ho,resolve,invoke,builtin,hs,hx,hrun,Result.andThen];exact hh
 ·refine wp_append_own w s x t ho V0.heap.size E i z sz bytes ht hi hz hsize hby hzs hsz v n xs hs hM.own ad m c news hx hl (fun j u hj=>?_) h1 h63 hbytes hM.below.size fun v' w' k1 k2 _=>hgo v' w' k1 k2
  obtain⟨b,off,e1,_,e3⟩:=hnews j u hj;injection e1 with e1;subst e1;rw [add_place];exact e3
theorem step_app {P:Program} {ops:Array Oper} {o:Oper} {a:Act} {K:Act→World→Prop} {Q:Exit→Act→World→Prop} {E':Prop} {V0 w:World} {E:TypeId} {sz n:Nat} {v:Value} {xs:List Value} (hM:Mk V0 E sz v n xs w) (hgd:o.guard=none) (s x:Operand) (t:TypeId)
  (ho:o.op= .call {callee:= .builtin .append,args:=#[s,x],argTypes:=#[t,t]})
  (z:Value) (bytes:Nat) (ht:P.underlying t=some (.slice E)) (hi:(P.info? E).map (fun i=>(i.zero,i.size,i.bytes))=some (some z,sz,bytes)) (hzs:z.cells.size=sz) (hsz:0<sz) (hs:a.eval s=v)
  (A:Option Addr) (m c:Nat) (news:List Value) (hA:A=none→m=0∧c=0) (hx:a.eval x= .slice A m c) (hl:news.length=m*sz) (hnews:Lies w A news) (h1:∀u∈news,u.oneCell'=true)
  (h63:n+m≤maxLen) (hbytes:(n+m)*bytes≤140737488355328) (N:Nat) (X:List Value) (hN:N=n+m) (hX:X=xs++news)
  (h:∀A' c' w',Mk V0 E sz (.slice A' N c') N X w'→(N≤c'∧(A'=none→N=0∧c'=0))→w.grownBy w' v.ownBlock→K (a.put o.dst (.slice A' N c')) w'):if Region.wanted o (yielded ops a.tmps)=true then Oper.wp P o a w K Q else E':=by
 have hw:Region.wanted o (yielded ops a.tmps)=true:=by simp [Region.wanted,hgd]
 rw [if_pos hw];exact Jyl hM s x t ho z bytes ht hi hzs hsz hs A m c news hA hx hl hnews h1 h63 hbytes N X hN hX h
theorem Mk.one {V0 V:World} (E:TypeId) (cs:Array Value) {sz:Nat} (h:Below V0.heap.size V0 V) (hl:cs.size=sz):Mk V0 E sz (.slice (some ⟨V.heap.size,0,none⟩) 1 1) 1 cs.toList (V.alloc (.cells cs E)):=
 ⟨⟨by rw [Array.length_toList,hl,Nat.one_mul],.inr ⟨V.heap.size,1,cs,rfl,h.size,heap_alloc_new V _,Nat.le_refl _,by decide,by rw [hl,Nat.one_mul],List.take_of_length_le (by rw [Array.length_toList,hl,Nat.one_mul];exact Nat.le_refl _)⟩⟩,h.alloc h.size _⟩
end Go.Proofs.YtekekhgjobahaaaGreatDoor.cat
