/- What merge's Names answers of entries, and Page: so many of them from one on, and whether there are none behind them. Conditions: the entries lie in memory. What merge's Page answers: so many entries from one on, copied, and whether there are none behind them. Condition: the entries lie in memory, a million at most. -/
import Derived.Test.YtckjkndegjklnaaGreatDoorJM1
import Derived.Test.YtckjkndegjklnaaGreatDoorJO
import Derived.Lib.MinMax
namespace Go.Proofs.YtckjkndegjklnaaGreatDoor.mrg
set_option maxRecDepth 100000
open Go.RowKit words ext name tre stk Go.Proofs.YtckjkndegjklnaaGreatDoor.seen

theorem Jmi (E:List (ByteArray×Int)):(E.flatMap enC).length=E.length*2:=by
 induction E with
 |nil=>rfl
 |cons x E ih=>rw [List.flatMap_cons,List.length_append,ih,List.length_cons];show 2+_=_;omega
theorem Jjg:∀{E:List (ByteArray×Int)} {k:Nat} {x:ByteArray×Int},E[k]?=some x→∀j,j<2→(E.flatMap enC)[k*2+j]?=(enC x)[j]?
 |[],k,x,hk,_,_=>by simp at hk
 |y::E,k,x,hk,j,hj=>by
  rw [List.flatMap_cons]
  have hl:(enC y).length=2:=rfl
  rcases k with _ |k
  ·obtain rfl:y=x:=by simpa using hk
   rw [List.getElem?_append_left (by omega),Nat.zero_mul,Nat.zero_add]
  ·rw [List.getElem?_append_right (by omega),hl,show (k+1)*2+j - 2=k*2+j by omega]
   exact Jjg (by simpa using hk) j hj
theorem lies_own {w:World} {B n c size:Nat} {E:TypeId} {A:Option Addr} {xs:List Value} (h:w.ownsRow B E size (.slice A n c) n xs):Lies w A xs:=fun j u hj=>by
 obtain⟨g,cur,h1,_,h2,_,h3⟩:=tre.own_cell h hj
 exact⟨g,0,h1,h2,by rw [Nat.zero_add];exact h3⟩

end Go.Proofs.YtckjkndegjklnaaGreatDoor.mrg
