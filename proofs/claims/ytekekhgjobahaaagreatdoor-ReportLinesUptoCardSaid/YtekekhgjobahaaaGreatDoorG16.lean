import Derived.Test.YtekekhgjobahaaaGreatDoorChecked
import Derived.Test.YtekekhgjobahaaaGreatDoorG0
import Derived.WalkSpells
import Derived.WalkLawsBesides
import Derived.Lib.SplitLaws
import Derived.Lib.IndexAny
set_option maxRecDepth 100000
namespace Go.Proofs.YtekekhgjobahaaaGreatDoor.name
open Go.RowKit words

def right (l:List UInt8):Bool:=decide (1≤l.length∧l.length≤64)&& !(l==[46])&& !(l==[46,46])&& !(l.contains 47)&& !(l.contains 0)

theorem size_list (s:ByteArray):s.data.toList.length=s.size:=by rw [Array.length_toList];rfl
theorem to_list (s:ByteArray):s.toList=s.data.toList:=ByteArray.toList_eq s
theorem Ja5 (s:ByteArray) (k:Nat) (h:k<s.size):s.data.toList.take (k+1)=s.data.toList.take k++[s[k]]:=by
 rw [List.take_succ_eq_append_getElem (by simpa using h)];rfl
end Go.Proofs.YtekekhgjobahaaaGreatDoor.name

namespace Go.Proofs.YtekekhgjobahaaaGreatDoor.name

def cut:List UInt8→List (List UInt8)
 |[]=>[[]]
 |b::l=>if b=47 then []::cut l else match cut l with
  |[]=>[[b]]
  |p::r=>(b::p)::r
theorem Jey:∀l:List UInt8,Lib.splitK [47] 0 (Lib.count l [47]) l=cut l
 |[]=>by rw [Lib.count_one];rfl
 |b::l=>by
  have ih:=Jey l;by_cases hb:b=47
  ·subst hb
   have hix:Lib.index (47::l) [47]=0:=by rw [Lib.index_one];simp [Lib.indexByte]
   rw [Lib.count_cons_eq,Nat.add_comm 1,Lib.splitK,if_neg (by rw [hix];decide),hix,cut,if_pos rfl,←ih];rfl
  ·rw [Lib.count_cons_ne b 47 l hb,cut,if_neg hb,←ih]
   rcases hn:Lib.count l [47] with _ |k
   ·rfl
   ·have hpos:Lib.index l [47]≠ -1:=fun e=>by
     have:=Lib.count_miss e;omega
    have hge: -1≤Lib.index l [47]:=by rw [Lib.index_one];exact Lib.indexByte_ge _ _
    obtain⟨i,hi⟩:∃i:Nat,Lib.index l [47]=i:=⟨(Lib.index l [47]).toNat,by omega⟩
    have hib:Lib.indexByte l 47=(i:Int):=by rw [←Lib.index_one];exact hi
    have hi2:Lib.index (b::l) [47]=((i+1:Nat):Int):=by
     have e1:(b==(47:UInt8))=false:=by simpa using hb
     rw [Lib.index_one,Lib.indexByte,e1,hib];have e2:((i:Int)== -1)=false:=by rw [beq_eq_false_iff_ne];omega
     rw [e2];simp
    rw [Lib.splitK,if_neg (by rw [hi2,beq_iff_eq];omega),hi2,Lib.splitK,if_neg (by rw [hi,beq_iff_eq];omega),hi];simp
theorem Jhm (s:ByteArray):(Lib.splitB ⟨#[47]⟩ 0 (Lib.countB s ⟨#[47]⟩) s).map (fun x=>x.data.toList)=cut s.data.toList:=by
 have h:=Lib.splitB_data ⟨#[47]⟩ 0 (Lib.countB s ⟨#[47]⟩) s;rw [←Jey];exact h

def idle (p:List UInt8):Bool:=p==[]||p==[46]
def bad (p:List UInt8):Bool:= !idle p&& !(p==[46,46])&& !right p
def parts (l:List UInt8):Option (List (List UInt8)):=if l.length<1∨1024<l.length∨(cut l).any bad=true then none else some ((cut l).filter fun p=> !idle p)
end Go.Proofs.YtekekhgjobahaaaGreatDoor.name
