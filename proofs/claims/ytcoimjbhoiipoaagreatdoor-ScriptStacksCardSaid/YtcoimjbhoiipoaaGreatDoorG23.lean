import Derived.Test.YtcoimjbhoiipoaaGreatDoorG15
import Derived.Laws.CopyOwn
import Derived.Lib.BufferRead
set_option maxRecDepth 100000
open Go.Proofs.Tryz
namespace Go.Proofs.YtcoimjbhoiipoaaGreatDoor.ext
open Go.RowKit words


structure Asks (w:World) (A:Option Addr) (cap:Nat) (L:List Ex) (off:Int) (bl bo:Nat):Prop where
 l:w.heap[bl]?=some (.cells #[.slice A L.length cap] 26 (0,0))
 o:w.heap[bo]?=some (.cells #[.int .i64 off] 3 (0,0))
 e:Exts w w.heap.size A L
theorem Asks.keep {w w':World} {A:Option Addr} {cap:Nat} {L:List Ex} {off:Int} {bl bo:Nat} (h:Asks w A cap L off bl bo) (hb:Below w.heap.size w w'):Asks w' A cap L off bl bo:=
 ⟨(hb.block bl (lt_of_some h.l)).trans h.l,(hb.block bo (lt_of_some h.o)).trans h.o,(h.e.keep hb).more hb.size⟩




theorem Jht {P:Program} (w:World) (dT sT ty elem:TypeId) (g o dLen dCap:Nat) (s:ByteArray) (cur:Array Value) (t:TypeId)
  (hu:P.underlying dT=some (.slice elem)) (hs:(P.info? elem).map (·.size)=some 1) (hg:w.heap[g]?=some (.cells cur t (0,0))) (hfit:o+Nat.min s.size dLen≤cur.size):
  (Builtin.copy_ #[dT,sT] ty #[.slice (some ⟨g,o,none⟩) dLen dCap,.string s]).run P w=
   .ok (goInt (Nat.min s.size dLen)) (w.setRow g (cur.toList.take o++Lib.byteCells (s.data.toList.take (Nat.min s.size dLen))++cur.toList.drop (o+Nat.min s.size dLen)).toArray):=by
 obtain⟨n,hn⟩:=words.nm (Nat.min s.size dLen);have hns:n≤s.size:=by rw [hn];exact Nat.min_le_left _ _
 rw [←hn] at hfit ⊢;have hlen:(Lib.byteCells (s.data.toList.take n)).length=n:=by rw [Lib.byteCells_length,List.length_take,size_list];omega
 have hst:=run_storeCells_at P g o t (Lib.byteCells (s.data.toList.take n)) 0 cur w hg (by rw [hlen];simpa using hfit) (Lib.byteCells_one _);have htk:List.take n (List.map (fun b:UInt8=>Value.int IntKind.u8 (b.toNat:Int)) s.data.toList)=Lib.byteCells (s.data.toList.take n):=by
  simp [Lib.byteCells,List.map_take]
 rw [hlen] at hst;simp only [Nat.add_zero] at hst;cases hq:P.info? elem with
 |none=>simp [hq] at hs
 |some i=>
  simp [Builtin.copy_,run_underlying hu,Builtin.lenOf,Builtin.firstCells,sizeOf,typeInfo,hq,←hn];rw [htk,hst];simp [Result.andThen]

theorem Jnc {P:Program} {w:World} {ops:Array Oper} {rest:List Oper} {o:Oper} {a:Act} {Q:Exit→Act→World→Prop} (hgd:o.guard=none) (d s:Operand) (dT sT:TypeId)
  (ho:o.op= .call {callee:= .builtin .copy,args:=#[d,s],argTypes:=#[dT,sT]}) (elem:TypeId) (hu:P.underlying dT=some (.slice elem)) (hsz:(P.info? elem).map (·.size)=some 1)
  (g off dLen dCap:Nat) (src:ByteArray) (hd:a.eval d= .slice (some ⟨g,off,none⟩) dLen dCap) (hs:a.eval s= .string src)
  (cur:Array Value) (t:TypeId) (hg:w.heap[g]?=some (.cells cur t (0,0))) (hfit:off+Nat.min src.size dLen≤cur.size)
  (h:∀w',w'=w.setRow g (cur.toList.take off++Lib.byteCells (src.data.toList.take (Nat.min src.size dLen))++cur.toList.drop (off+Nat.min src.size dLen)).toArray→wpList P ops Q rest (a.put o.dst (goInt (Nat.min src.size dLen))) w'):
  wpList P ops Q (o::rest) a w:=by
 refine wpList_plain hgd fun K hK=>?_;have hrun:=Jht (P:=P) w dT sT o.type elem g off dLen dCap src cur t hu hsz hg hfit;unfold Oper.wp;simp only [ho,execOp,resolve,invoke,builtin,Sem.run_bind,Sem.run_pure,Result.andThen_ok,List.map_toArray,List.map_cons,List.map_nil,hd,hs,hrun];exact hK _ _ (h _ rfl)

def layB (l:List UInt8) (off:Int) (x:Ex):List UInt8:=(List.range l.length).map fun i:Nat=>if Cov x (off+(i:Int)) then byteOf x (off+(i:Int)) else l.getD i 0
theorem Jda (l:List UInt8) (off:Int) (x:Ex):(layB l off x).length=l.length:=by simp [layB]
theorem Ji2 {l:List UInt8} {off:Int} {x:Ex} {i:Nat} (h:i<l.length):(layB l off x)[i]?=some (if Cov x (off+(i:Int)) then byteOf x (off+(i:Int)) else l.getD i 0):=by
 simp [layB,List.getElem?_range h]
theorem Jrh (l:List UInt8) (off:Int) (x:Ex) (o q n:Nat) (h1:off+(o:Int)=x.O+(q:Int)) (h0:o=0∨q=0) (hq:q≤x.D.size) (ho:o≤l.length) (hn:n=Nat.min (x.D.size - q) (l.length - o)):
  l.take o++(x.D.data.toList.drop q).take n++l.drop (o+n)=layB l off x:=by
 have hn1:n≤x.D.size - q:=by rw [hn];exact Nat.min_le_left _ _
 have hn2:n≤l.length - o:=by rw [hn];exact Nat.min_le_right _ _
 have hn3:n=x.D.size - q∨n=l.length - o:=by
  rw [hn];rcases Nat.le_total (x.D.size - q) (l.length - o) with h |h
  ·exact .inl (Nat.min_eq_left h)
  ·exact .inr (Nat.min_eq_right h)
 have hD:=size_list x.D;have hl1:(l.take o).length=o:=by rw [List.length_take];omega
 have hl2:((x.D.data.toList.drop q).take n).length=n:=by rw [List.length_take,List.length_drop,hD];omega
 refine List.ext_getElem? fun i=>?_;by_cases hi:i<l.length
 ·rw [Ji2 hi]
  by_cases c1:i<o
  ·rw [List.getElem?_append_left (by rw [List.length_append,hl1];omega),List.getElem?_append_left (by omega),List.getElem?_take_of_lt c1,if_neg (by unfold Cov;omega),List.getD_eq_getElem?_getD,List.getElem?_eq_getElem hi]
   rfl
  ·by_cases c2:i<o+n
   ·rw [List.getElem?_append_left (by rw [List.length_append,hl1,hl2];omega),List.getElem?_append_right (by omega),hl1,List.getElem?_take_of_lt (by omega),List.getElem?_drop,if_pos (by unfold Cov;omega)]
    unfold byteOf;rw [List.getD_eq_getElem?_getD,show (off+(i:Int) - x.O).toNat=q+(i - o) by omega,List.getElem?_eq_getElem (by omega)];rfl
   ·rw [List.getElem?_append_right (by rw [List.length_append,hl1,hl2];omega),List.length_append,hl1,hl2,List.getElem?_drop,show o+n+(i - (o+n))=i by omega,if_neg (by unfold Cov;omega),List.getD_eq_getElem?_getD,List.getElem?_eq_getElem hi]
    rfl
 ·rw [List.getElem?_eq_none (by rw [List.length_append,List.length_append,hl1,hl2,List.length_drop];omega),List.getElem?_eq_none (by rw [Jda];omega)]
theorem Jr6 {l:List UInt8} {off:Int} {x:Ex} (h:x.O+(x.D.size:Int)≤off):layB l off x=l:=by
 refine List.ext_getElem? fun i=>?_;by_cases hi:i<l.length
 ·rw [Ji2 hi,if_neg (by unfold Cov;omega),List.getD_eq_getElem?_getD,List.getElem?_eq_getElem hi]
  rfl
 ·rw [List.getElem?_eq_none (by rw [Jda];omega),List.getElem?_eq_none (by omega)]

def Buf (w:World) (g:Nat) (l:List UInt8):Prop:=w.heap[g]?=some (.cells (Lib.byteCells l).toArray 5 (0,0))
theorem Buf.row {w:World} {g:Nat} {l:List UInt8} {cs:List UInt8} (h:Buf w g l):Buf (w.setRow g (Lib.byteCells cs).toArray) g cs:=setRow_heap w g _ _ _ _ h
theorem Jhs (w:World) (g:Nat) (cs:Array Value):w.grownBy (w.setRow g cs) (some g):=
 ⟨rfl,rfl,rfl,by simp [World.setRow],fun k _ hne=>setRow_other w g k cs (fun e=>hne (by rw [e]))⟩
theorem Jag {a b c:World} {row:Option Nat} (h:a.grownBy b row) (k:b.grownBy c row):a.grownBy c row:=
 ⟨k.os.trans h.os,k.tape.trans h.tape,k.output.trans h.output,Nat.le_trans h.size k.size,fun i hi hne=>(k.block i (Nat.lt_of_lt_of_le hi h.size) hne).trans (h.block i hi hne)⟩
theorem Jaw {a w:World} (h:Below a.heap.size a w) (row:Option Nat):a.grownBy w row:=⟨h.os,h.tape,h.output,h.size,fun i hi _=>h.block i hi⟩
theorem Buf.below {w w':World} {g:Nat} {l:List UInt8} (h:Buf w g l) (hb:Below w.heap.size w w'):Buf w' g l:=(hb.block g (lt_of_some h)).trans h

theorem Jrx {w w':World} {g:Nat} {l l':List UInt8} {cs:List Value} (h:Buf w g l) (hcs:cs=Lib.byteCells l') (hw:w'=w.setRow g cs.toArray):Buf w' g l'∧w.grownBy w' (some g):=by
 subst hw hcs;exact⟨h.row,Jhs _ _ _⟩
theorem Jqn (l p:List UInt8) (o n:Nat):(Lib.byteCells l).toArray.toList.take o++Lib.byteCells p++(Lib.byteCells l).toArray.toList.drop (o+n)=Lib.byteCells (l.take o++p++l.drop (o+n)):=by
 simp [Lib.byteCells,List.map_take,List.map_drop]

theorem byte1:(Tryz.prog.info? 5).map (·.size)=some 1:=by kernel_rfl


theorem Exts.cut {w:World} {B:Nat} {A:Option Addr} {L:List Ex} {cap:Nat} (h:Exts w B A L) (i:Nat) (hc:L.length≤cap):Exts w B (if cap=i then A else A.map (·.add (i*2))) (L.drop i):=fun j x hx=>by
 rw [List.getElem?_drop] at hx;have hlt:i+j<L.length:=(List.getElem?_eq_some_iff.1 hx).1;obtain⟨⟨b,off,hA,hB,c0,c1⟩,h1⟩:=h (i+j) x hx;subst hA;rw [if_neg (by omega)];have add0:(⟨b,off,none⟩:Addr).add (i*2)=⟨b,off+i*2,none⟩:=by
  unfold Addr.add;split<;>simp_all
 rw [show off+(i+j)*2=off+i*2+j*2 by omega] at c0 c1;exact⟨⟨b,off+i*2,by rw [Option.map_some,add0],hB,c0,c1⟩,h1⟩
theorem infoExt:(Tryz.prog.info? 73).map (fun i=>(i.zero,i.size,i.bytes))=some (some (.agg #[.int .i64 0,.string ⟨#[]⟩]),2,24):=by kernel_rfl
theorem infoByte:(Tryz.prog.info? 5).map (fun i=>(i.zero,i.size,i.bytes))=some (some (.int .u8 0),1,1):=by kernel_rfl
theorem Jsy (A:Option Addr) (n cap i:Nat) (h:i≤n) (wx:World):
  (Instr.slice 26 (.slice A n cap) (some (.int .i64 (i:Int))) none none).run prog wx= .ok (.slice (if cap=i then A else A.map (·.add (i*2))) (n - i) (cap - i)) wx:=by
 obtain⟨i0,hi,hz0,hz1,hz2⟩:=info_parts infoExt;have he:Tryz.prog.elem 26=73:=by kernel_rfl
 rw [run_slice_l (P:=prog) wx 26 A n cap (by kernel_rfl) .i64 (i:Int) (by omega) (by omega),he];simp [sizeOf,typeInfo,hi,hz1,Result.andThen,sliced]
theorem Buf.conv {w:World} {g:Nat} {l:List UInt8} (h:Buf w g l) {m:Nat} (hm:l.length=m) (hm2:m≤1048576):
  (convert 82 9 (.slice (some ⟨g,0,none⟩) m m)).run prog w= .ok (.string ⟨l.toArray⟩) w:=by
 subst hm;refine run_convert_bytes_back (P:=prog) w 82 9 5 ⟨g,0,none⟩ l.length l underlying82 underlying5 underlying9
  (Lib.bytes_of_row h (by simp only [];rw [List.take_of_length_le (by rw [Lib.byteCells_length];exact Nat.le_refl _)]))
theorem Jsr {L:List Ex} (hp:L.Pairwise fun x y=>x.O+(x.D.size:Int)≤y.O) {off:Int} {m k:Nat} {x:Ex} (hx:L[k]?=some x):layB (readL (L.take k) off m) off x=readL (L.take (k+1)) off m:=by
 refine List.ext_getElem? fun i=>?_;by_cases hi:i<m
 ·rw [Ji2 (by rw [Jbp];exact hi),Jj1 hi,Jpf hp hx,List.getD_eq_getElem?_getD,Jj1 hi]
  rfl
 ·rw [List.getElem?_eq_none (by rw [Jda,Jbp];omega),List.getElem?_eq_none (by rw [Jbp];omega)]

end Go.Proofs.YtcoimjbhoiipoaaGreatDoor.ext
