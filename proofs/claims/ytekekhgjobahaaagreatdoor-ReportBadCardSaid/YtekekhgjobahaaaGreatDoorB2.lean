import Derived.Test.YtekekhgjobahaaaGreatDoorA8
import Derived.StillTailTactics
import Derived.Deep.LoopGhost
import Derived.Laws.CopyOwn
import Derived.Lib.BufferRead
set_option maxHeartbeats 3200000
set_option maxRecDepth 100000
open Go.Lib (hid)
open Go.Proofs.Tryz
namespace Go.Proofs.YtekekhgjobahaaaGreatDoor.ext
open Go.RowKit words
theorem Jva (x:Ex) (off:Int) (w:World) (h1: -4611686018427387904≤x.O) (h2:x.O≤4611686018427387904) (h3:x.D.size≤140737488355328):
  Calls prog 328 #[.agg #[.int .i64 x.O,.string x.D],.int .i64 off] w fun e w'=>e= .returned (.bool (decide (off<x.O+(x.D.size:Int))))∧Below w.heap.size w w':=by
 go_enter func328,ntmps328
 go_wp2_with fail
 go_ret
 exact⟨rfl,(Below.refl _ _).alloc (Nat.le_refl _) _⟩
theorem Jlw (x:Ex) (off:Int) (r:Bool) (w:World) (h1: -4611686018427387904≤x.O) (h2:x.O≤4611686018427387904) (h3:x.D.size≤140737488355328) (hr:decide (off<x.O+(x.D.size:Int))=r):
  Calls prog 328 #[.agg #[.int .i64 x.O,.string x.D],.int .i64 off] w fun e w'=>e= .returned (.bool r)∧Below w.heap.size w w':=
 (Jva x off w h1 h2 h3).mono fun _ _ ⟨he,hb⟩=>⟨by rw [he,hr],hb⟩

structure Asks (w:World) (A:Option Addr) (cap:Nat) (L:List Ex) (off:Int) (bl bo:Nat):Prop where
 l:w.heap[bl]?=some (.cells #[.slice A L.length cap] 44 (0,0))
 o:w.heap[bo]?=some (.cells #[.int .i64 off] 3 (0,0))
 e:Exts w w.heap.size A L
theorem Asks.keep {w w':World} {A:Option Addr} {cap:Nat} {L:List Ex} {off:Int} {bl bo:Nat} (h:Asks w A cap L off bl bo) (hb:Below w.heap.size w w'):Asks w' A cap L off bl bo:=
 ⟨(hb.block bl (lt_of_some h.l)).trans h.l,(hb.block bo (lt_of_some h.o)).trans h.o,(h.e.keep hb).more hb.size⟩

theorem Js1 (k:Nat) (x:Ex) (A:Option Addr) (cap:Nat) (L:List Ex) (off:Int) (bl bo:Nat) (r:Bool) (w:World) (h:Asks w A cap L off bl bo) (hx:L[k]?=some x) (_hlen:L.length≤4611686018427387904)
  (h1: -4611686018427387904≤x.O) (h2:x.O≤4611686018427387904) (hr:decide (off<x.O+(x.D.size:Int))=r):
  Calls prog 327 #[.int .i64 (k:Int),.pointer (some ⟨bl,0,none⟩),.pointer (some ⟨bo,0,none⟩)] w fun e w'=>e= .returned (.bool r)∧Below w.heap.size w w':=by
 have hlt:k<L.length:=(List.getElem?_eq_some_iff.1 hx).1;obtain⟨⟨b,o,rfl,hB,c0,c1⟩,_,_,h3⟩:=h.e k x hx;have cl:w.cell? ⟨bl,0,none⟩=some (.slice (some ⟨b,o,none⟩) L.length cap):=Jaa h.l 0;have co:w.cell? ⟨bo,0,none⟩=some (.int .i64 off):=Jaa h.o 0;have i0:(0:Int)≤(k:Int):=by omega
 have i1:(k:Int)<(L.length:Int):=by omega
 have HR:=hid hr;clear h hx hr;go_enter func327,ntmps327
 go_wp2_with fail
 go_still_tail 5,(by kernel_rfl)
 change wpList _ _ _ _ _ w.drew;generalize hw:w.drew=w2;have HW:Hid (Below w.heap.size w w2):=by rw [←hw];exact hid (Below.refl _ _).drew
 clear hw;go_wp2_with fail
 refine (Jlw x off r _ h1 h2 h3 HR.out).mono ?_;rintro e w3 ⟨rfl,hb3⟩;have HB3:=hid (HW.out.trans (hb3.mono HW.out.size));clear hb3;go_wp2_with fail
 go_ret
 exact⟨rfl,HB3.out⟩
theorem Jog (A:Option Addr) (cap:Nat) (L:List Ex) (off:Int) (bl bo:Nat) (w:World) (h:Asks w A cap L off bl bo) (hlen:L.length≤4611686018427387903)
  (hL:∀x∈L,0≤x.O∧x.O+(x.D.size:Int)≤1048576) (hp:L.Pairwise fun x y=>x.O+(x.D.size:Int)≤y.O):
  Calls prog 326 #[.int .i64 (L.length:Int),.func (.func 327) #[] #[.pointer (some ⟨bl,0,none⟩),.pointer (some ⟨bo,0,none⟩)]] w fun e w'=>
   (∃i:Nat,i≤L.length∧e= .returned (.int .i64 (i:Int))∧∀j y,j<i→L[j]?=some y→y.O+(y.D.size:Int)≤off)∧Below w.heap.size w w':=by
 have HA:=hid h;have HL:=hid hL;have HP:=hid hp;clear h hL hp;go_enter func326,ntmps326
 go_wp2_with fail
 go_loopg [5,6] L.length (fun g s5 s6 wr=>∃lo hi:Nat,s5= .int .i64 lo∧s6= .int .i64 hi∧lo≤hi∧hi≤L.length∧hi - lo≤g∧(∀j y,j<lo→L[j]?=some y→y.O+(y.D.size:Int)≤off)∧Below w.heap.size w wr)
 case atStart=>exact⟨0,L.length,rfl,rfl,Nat.zero_le _,Nat.le_refl _,by omega,fun j y hj=>absurd hj (Nat.not_lt_zero _),Below.refl _ _⟩
 case round=>
  obtain⟨lo,hi,rfl,rfl,hlh,hin,hg,hlo,hbel⟩:=hrel;have HB:=hid hbel;have HLO:=hid hlo;clear hbel hlo;by_cases hlt:lo<hi
  ·obtain⟨x,hx⟩:∃x,L[(lo+hi) / 2]?=some x:=⟨_,List.getElem?_eq_getElem (by omega)⟩
   obtain⟨x1,x2⟩:=HL.out x (List.mem_of_getElem? hx);have HX:=hid hx;have HAr:=hid (HA.out.keep HB.out);have em:((lo:Int)+(hi:Int)) / 2=(((lo+hi) / 2:Nat):Int):=by omega
   have hm1:lo≤(lo+hi) / 2:=by omega
   have hm2:(lo+hi) / 2<hi:=by omega
   have EM:=hid em;obtain⟨r,hr⟩:=words.nm (decide (off<x.O+(x.D.size:Int)));have HC:=hid (Js1 ((lo+hi) / 2) x A cap L off bl bo r _ HAr.out HX.out (by omega) (by omega) (by omega) hr.symm);have HR:=hid hr;clear hx em hr;rw [←EM.out] at HC;cases r
   ·go_wp2_with fail
    refine HC.out.mono ?_;rintro e w2 ⟨rfl,hb2⟩;have HB2:=hid (HB.out.trans (hb2.mono HB.out.size));have HN:Hid (x.O+(x.D.size:Int)≤off):=hid (by have:=of_decide_eq_false HR.out.symm;omega);clear hb2 HC;go_wp2_with fail
    go_roundg (hi - ((lo+hi) / 2+1))
    case measure=>omega
    case rel=>
     refine⟨(lo+hi) / 2+1,hi,by rw [EM.out];go_num,rfl,by omega,hin,Nat.le_refl _,fun j y hj hy=>?_,HB2.out⟩;have hn:=HN.out;by_cases hjm:j=(lo+hi) / 2
     ·subst hjm
      rw [HX.out] at hy;injection hy with e;subst e;exact hn
     ·have:=Jlm HP.out (show j<(lo+hi) / 2 by omega) hy HX.out
      omega
   ·go_wp2_with fail
    refine HC.out.mono ?_;rintro e w2 ⟨rfl,hb2⟩;have HB2:=hid (HB.out.trans (hb2.mono HB.out.size));clear hb2 HC;go_wp2_with fail
    go_roundg ((lo+hi) / 2 - lo)
    case measure=>omega
    case rel=>exact⟨lo,(lo+hi) / 2,rfl,by rw [EM.out],by omega,by omega,Nat.le_refl _,HLO.out,HB2.out⟩
  ·go_wp2_with fail
   go_ret
   exact⟨⟨lo,by omega,rfl,HLO.out⟩,HB.out⟩
theorem Jpu (A:Option Addr) (cap:Nat) (L:List Ex) (off:Int) (w:World) (hI:Exts w w.heap.size A L) (hlen:L.length≤4611686018427387903)
  (hL:∀x∈L,0≤x.O∧x.O+(x.D.size:Int)≤1048576) (hp:L.Pairwise fun x y=>x.O+(x.D.size:Int)≤y.O):
  Calls prog 315 #[.slice A L.length cap,.int .i64 off] w fun e w'=>
   (∃i:Nat,i≤L.length∧e= .returned (.int .i64 (i:Int))∧∀j y,j<i→L[j]?=some y→y.O+(y.D.size:Int)≤off)∧Below w.heap.size w w':=by
 obtain⟨w2,hw2⟩:=words.nm ((w.alloc (.cells #[.slice A L.length cap] 44)).alloc (.cells #[.int .i64 off] 3));have hb:Below w.heap.size w w2:=by
  rw [hw2];exact ((Below.refl _ _).alloc (Nat.le_refl _) _).alloc (by simp) _
 have hA:Asks w2 A cap L off w.heap.size (w.heap.size+1):=by
  refine⟨?_,?_,(hI.keep hb).more hb.size⟩
  ·rw [hw2]
   exact (Below.heap_alloc _ _ _ (by simp)).trans (heap_alloc_new w _)
  ·rw [hw2]
   have:=heap_alloc_new (w.alloc (.cells #[.slice A L.length cap] 44)) (.cells #[.int .i64 off] 3);simpa using this
 have HC:=hid (Jog A cap L off _ _ w2 hA hlen hL hp);have HB:=hid hb;rw [hw2] at HC HB;clear hI hL hp hb hA hw2;go_enter func315,ntmps315
 go_wp2_with fail
 refine HC.out.mono ?_;rintro e w3 ⟨⟨i,hi,rfl,hlo⟩,hb3⟩;have HLO:=hid hlo;have HB3:=hid (HB.out.trans (hb3.mono HB.out.size));clear hlo hb3 HC;go_wp2_with fail
 go_ret
 exact⟨⟨i,hi,rfl,HLO.out⟩,HB3.out⟩

theorem Jkb {P:Program} (w:World) (dT sT ty elem:TypeId) (g o dLen dCap:Nat) (s:ByteArray) (cur:Array Value) (t:TypeId)
  (hu:P.underlying dT=some (.slice elem)) (hs:(P.info? elem).map (·.size)=some 1) (hg:w.heap[g]?=some (.cells cur t (0,0))) (hfit:o+Nat.min s.size dLen≤cur.size):
  (Builtin.copy_ #[dT,sT] ty #[.slice (some ⟨g,o,none⟩) dLen dCap,.string s]).run P w=
   .ok (goInt (Nat.min s.size dLen)) (w.setRow g (cur.toList.take o++Lib.byteCells (s.data.toList.take (Nat.min s.size dLen))++cur.toList.drop (o+Nat.min s.size dLen)).toArray):=by
 obtain⟨n,hn⟩:=words.nm (Nat.min s.size dLen);have hns:n≤s.size:=by rw [hn];exact Nat.min_le_left _ _
 rw [←hn] at hfit ⊢;have hlen:(Lib.byteCells (s.data.toList.take n)).length=n:=by rw [Lib.byteCells_length,List.length_take,size_list];omega
 have hst:=run_storeCells_at P g o t (Lib.byteCells (s.data.toList.take n)) 0 cur w hg (by rw [hlen];simpa using hfit) (Lib.byteCells_one _);have htk:List.take n (List.map (fun b:UInt8=>Value.int IntKind.u8 (b.toNat:Int)) s.data.toList)=Lib.byteCells (s.data.toList.take n):=by
  simp [Lib.byteCells,List.map_take]
 rw [hlen] at hst;simp only [Nat.add_zero] at hst;cases hq:P.info? elem with
 |none=>simp [hq] at hs
 |some i=>
  simp [Builtin.copy_,run_underlying hu,Builtin.lenOf,Builtin.firstCells,sizeOf,typeInfo,hq,←hn];rw [htk,hst];simp [Result.andThen]

theorem Jcr {P:Program} {w:World} {ops:Array Oper} {rest:List Oper} {o:Oper} {a:Act} {Q:Exit→Act→World→Prop} (hgd:o.guard=none) (d s:Operand) (dT sT:TypeId)
  (ho:o.op= .call {callee:= .builtin .copy,args:=#[d,s],argTypes:=#[dT,sT]}) (elem:TypeId) (hu:P.underlying dT=some (.slice elem)) (hsz:(P.info? elem).map (·.size)=some 1)
  (g off dLen dCap:Nat) (src:ByteArray) (hd:a.eval d= .slice (some ⟨g,off,none⟩) dLen dCap) (hs:a.eval s= .string src)
  (cur:Array Value) (t:TypeId) (hg:w.heap[g]?=some (.cells cur t (0,0))) (hfit:off+Nat.min src.size dLen≤cur.size)
  (h:∀w',w'=w.setRow g (cur.toList.take off++Lib.byteCells (src.data.toList.take (Nat.min src.size dLen))++cur.toList.drop (off+Nat.min src.size dLen)).toArray→wpList P ops Q rest (a.put o.dst (goInt (Nat.min src.size dLen))) w'):
  wpList P ops Q (o::rest) a w:=by
 refine wpList_plain hgd fun K hK=>?_;have hrun:=Jkb (P:=P) w dT sT o.type elem g off dLen dCap src cur t hu hsz hg hfit;unfold Oper.wp;simp only [ho,execOp,resolve,invoke,builtin,Sem.run_bind,Sem.run_pure,Result.andThen_ok,List.map_toArray,List.map_cons,List.map_nil,hd,hs,hrun];exact hK _ _ (h _ rfl)

def layB (l:List UInt8) (off:Int) (x:Ex):List UInt8:=(List.range l.length).map fun i:Nat=>if Cov x (off+(i:Int)) then byteOf x (off+(i:Int)) else l.getD i 0
theorem Jds (l:List UInt8) (off:Int) (x:Ex):(layB l off x).length=l.length:=by simp [layB]
theorem Jk1 {l:List UInt8} {off:Int} {x:Ex} {i:Nat} (h:i<l.length):(layB l off x)[i]?=some (if Cov x (off+(i:Int)) then byteOf x (off+(i:Int)) else l.getD i 0):=by
 simp [layB,List.getElem?_range h]
theorem Jgx (l:List UInt8) (off:Int) (x:Ex) (o q n:Nat) (h1:off+(o:Int)=x.O+(q:Int)) (h0:o=0∨q=0) (hq:q≤x.D.size) (ho:o≤l.length) (hn:n=Nat.min (x.D.size - q) (l.length - o)):
  l.take o++(x.D.data.toList.drop q).take n++l.drop (o+n)=layB l off x:=by
 have hn1:n≤x.D.size - q:=by rw [hn];exact Nat.min_le_left _ _
 have hn2:n≤l.length - o:=by rw [hn];exact Nat.min_le_right _ _
 have hn3:n=x.D.size - q∨n=l.length - o:=by
  rw [hn];rcases Nat.le_total (x.D.size - q) (l.length - o) with h |h
  ·exact .inl (Nat.min_eq_left h)
  ·exact .inr (Nat.min_eq_right h)
 have hD:=size_list x.D;have hl1:(l.take o).length=o:=by rw [List.length_take];omega
 have hl2:((x.D.data.toList.drop q).take n).length=n:=by rw [List.length_take,List.length_drop,hD];omega
 refine List.ext_getElem? fun i=>?_;by_cases hi:i<l.length
 ·rw [Jk1 hi]
  by_cases c1:i<o
  ·rw [List.getElem?_append_left (by rw [List.length_append,hl1];omega),List.getElem?_append_left (by omega),List.getElem?_take_of_lt c1,if_neg (by unfold Cov;omega),List.getD_eq_getElem?_getD,List.getElem?_eq_getElem hi]
   rfl
  ·by_cases c2:i<o+n
   ·rw [List.getElem?_append_left (by rw [List.length_append,hl1,hl2];omega),List.getElem?_append_right (by omega),hl1,List.getElem?_take_of_lt (by omega),List.getElem?_drop,if_pos (by unfold Cov;omega)]
    unfold byteOf;rw [List.getD_eq_getElem?_getD,show (off+(i:Int) - x.O).toNat=q+(i - o) by omega,List.getElem?_eq_getElem (by omega)];rfl
   ·rw [List.getElem?_append_right (by rw [List.length_append,hl1,hl2];omega),List.length_append,hl1,hl2,List.getElem?_drop,show o+n+(i - (o+n))=i by omega,if_neg (by unfold Cov;omega),List.getD_eq_getElem?_getD,List.getElem?_eq_getElem hi]
    rfl
 ·rw [List.getElem?_eq_none (by rw [List.length_append,List.length_append,hl1,hl2,List.length_drop];omega),List.getElem?_eq_none (by rw [Jds];omega)]
theorem Jqn {l:List UInt8} {off:Int} {x:Ex} (h:x.O+(x.D.size:Int)≤off):layB l off x=l:=by
 refine List.ext_getElem? fun i=>?_;by_cases hi:i<l.length
 ·rw [Jk1 hi,if_neg (by unfold Cov;omega),List.getD_eq_getElem?_getD,List.getElem?_eq_getElem hi]
  rfl
 ·rw [List.getElem?_eq_none (by rw [Jds];omega),List.getElem?_eq_none (by omega)]

def Buf (w:World) (g:Nat) (l:List UInt8):Prop:=w.heap[g]?=some (.cells (Lib.byteCells l).toArray 5 (0,0))
theorem Buf.row {w:World} {g:Nat} {l:List UInt8} {cs:List UInt8} (h:Buf w g l):Buf (w.setRow g (Lib.byteCells cs).toArray) g cs:=setRow_heap w g _ _ _ _ h
theorem Ji9 (w:World) (g:Nat) (cs:Array Value):w.grownBy (w.setRow g cs) (some g):=
 ⟨rfl,rfl,rfl,by simp [World.setRow],fun k _ hne=>setRow_other w g k cs (fun e=>hne (by rw [e]))⟩
theorem Jae {a b c:World} {row:Option Nat} (h:a.grownBy b row) (k:b.grownBy c row):a.grownBy c row:=
 ⟨k.os.trans h.os,k.tape.trans h.tape,k.output.trans h.output,Nat.le_trans h.size k.size,fun i hi hne=>(k.block i (Nat.lt_of_lt_of_le hi h.size) hne).trans (h.block i hi hne)⟩
theorem Jan {a w:World} (h:Below a.heap.size a w) (row:Option Nat):a.grownBy w row:=⟨h.os,h.tape,h.output,h.size,fun i hi _=>h.block i hi⟩
theorem Buf.below {w w':World} {g:Nat} {l:List UInt8} (h:Buf w g l) (hb:Below w.heap.size w w'):Buf w' g l:=(hb.block g (lt_of_some h)).trans h

theorem Jke {w w':World} {g:Nat} {l l':List UInt8} {cs:List Value} (h:Buf w g l) (hcs:cs=Lib.byteCells l') (hw:w'=w.setRow g cs.toArray):Buf w' g l'∧w.grownBy w' (some g):=by
 subst hw hcs;exact⟨h.row,Ji9 _ _ _⟩
theorem Je3 (l p:List UInt8) (o n:Nat):(Lib.byteCells l).toArray.toList.take o++Lib.byteCells p++(Lib.byteCells l).toArray.toList.drop (o+n)=Lib.byteCells (l.take o++p++l.drop (o+n)):=by
 simp [Lib.byteCells,List.map_take,List.map_drop]

theorem byte1:(Tryz.prog.info? 5).map (·.size)=some 1:=by kernel_rfl
theorem Jv7 (g m:Nat) (l:List UInt8) (off:Int) (x:Ex) (w:World) (hl:l.length=m) (hb:Buf w g l) (ho0:0≤off) (ho1:off≤1048576) (hm:m≤1048576) (hx0:0≤x.O) (hx1:x.O+(x.D.size:Int)≤1048576) (hx2:x.O<off+(m:Int)):
  Calls prog 316 #[.slice (some ⟨g,0,none⟩) m m,.int .i64 off,.agg #[.int .i64 x.O,.string x.D]] w fun e w'=>e= .returned (.tuple #[])∧Buf w' g (layB l off x)∧w.grownBy w' (some g):=by
 have hz:x.D.size≤140737488355328:=by omega
 obtain⟨W0,hW0⟩:=words.nm (w.alloc (.cells #[.int .i64 x.O,.string x.D] 131));have hB0:Buf W0 g l:=by rw [hW0];exact (Below.heap_alloc _ _ _ (lt_of_some hb)).trans hb
 have hG0:w.grownBy W0 (some g):=by rw [hW0];exact World.grownBy_alloc _ _ _
 have HB0:=hid hB0;have HG0:=hid hG0;have HLn:=hid hl;rw [hW0] at HB0 HG0;have hcl:(Lib.byteCells l).toArray.size=m:=by rw [List.size_toArray,Lib.byteCells_length];exact hl
 have HCL:=hid hcl;clear hB0 hG0 hW0 hb hl hcl;by_cases h1:off≤x.O
 ·obtain⟨o,ho⟩:∃o:Nat,(o:Int)=x.O - off:=⟨(x.O - off).toNat,by omega⟩
  have g1:decide (off≤x.O)=true:=by simpa using h1
  have hw1:IntKind.i64.wrap (x.O - off)=(o:Int):=by rw [IntWalk.i64_in _ ⟨by omega,by omega⟩];omega
  have q0:(0:Int)≤(o:Int):=by omega
  have q1:(o:Int)≤(m:Int):=by omega
  have q2:o<m:=by omega
  have q3:¬m=o:=by omega
  have HS:=hid (Jgx l off x o 0 (Nat.min x.D.size (m - o)) (by omega) (.inr rfl) (Nat.zero_le _) (by rw [HLn.out];omega) (by rw [HLn.out,Nat.sub_zero]));have HO:=hid ho;have HF:=hid (show o+Nat.min x.D.size (m - o)≤(Lib.byteCells l).toArray.size by
    rw [HCL.out];exact Nat.le_trans (Nat.add_le_add_left (Nat.min_le_right _ _) o) (by omega))
  clear ho;go_enter func316,ntmps316
  go_wp2_with fail
  obtain⟨W1,hW1⟩:=words.nm (w.alloc (.cells #[.int .i64 x.O,.string x.D] 131));rw [←hW1] at HB0 HG0 ⊢;have c0:W1.cell? ⟨w.heap.size,0,none⟩=some (.int .i64 x.O):=by rw [hW1];simp
  have c1:W1.cell? ⟨w.heap.size,1,none⟩=some (.string x.D):=by rw [hW1];simp
  clear hW1;go_still_tail 8,(by kernel_rfl)
  change wpList _ _ _ _ _ (World.drew _);generalize hW2:W1.drew=W2;have HB2:Hid (Buf W2 g l):=by rw [←hW2];exact hid HB0.out
  have HG2:Hid (w.grownBy W2 (some g)):=by rw [←hW2];exact hid (Jae HG0.out (Jan (Below.refl _ _).drew _))
  clear hW2 c0 c1 HB0 HG0;go_wp2_with ((with_reducible show wpList _ _ _ _ _ _);refine Jcr (o:=⟨some 18,_,_,_,_,_⟩) rfl (.tmp 15) (.tmp 17) 94 9 rfl 5 underlying94 byte1 g o (m - o) (m - o) x.D rfl rfl _ 5 HB2.out HF.out ?_;intro w3 hw3';have HW3:=hid hw3';clear hw3')
  have hw3:=HW3.out;rw [Je3] at hw3;have hS:=HS.out;rw [List.drop_zero] at hS;rw [hS] at hw3;obtain⟨b3,g3⟩:=Jke HB2.out rfl hw3;have H3:=hid (show Buf w3 g (layB l off x)∧w.grownBy w3 (some g) from⟨b3,Jae HG2.out g3⟩);clear hw3 hS b3 g3;go_wp2_with fail
  refine bodyPost_ret (results_none rfl _ _ _) rfl ?_;exact⟨rfl,H3.out⟩
 ·have g1:decide (off≤x.O)=false:=by simp;omega
  by_cases h2:off<x.O+(x.D.size:Int)
  ·obtain⟨q,hq⟩:∃q:Nat,(q:Int)=off - x.O:=⟨(off - x.O).toNat,by omega⟩
   have hw1:IntKind.i64.wrap (off - x.O)=(q:Int):=by rw [IntWalk.i64_in _ ⟨by omega,by omega⟩];omega
   have hw2:off - x.O=(q:Int):=by omega
   have q0:(0:Int)≤(q:Int):=by omega
   have q1:(q:Int)≤(x.D.size:Int):=by omega
   have HS:=hid (Jgx l off x 0 q (Nat.min (x.D.size - q) m) (by omega) (.inl rfl) (by omega) (Nat.zero_le _) (by rw [HLn.out,Nat.sub_zero]));have HE:=hid (Jlw x off true (w.alloc (.cells #[.int .i64 x.O,.string x.D] 131)) (by omega) (by omega) hz (decide_eq_true h2));have HF:=hid (show 0+Nat.min (x.D.extract q x.D.size).size m≤(Lib.byteCells l).toArray.size by
     rw [HCL.out,Nat.zero_add];exact Nat.min_le_right _ _)
   clear hq h2;go_enter func316,ntmps316
   go_wp2_with fail
   refine HE.out.mono ?_;rintro e w2 ⟨rfl,hb2⟩;have c2:w2.cell? ⟨w.heap.size,0,none⟩=some (.int .i64 x.O):=(hb2.cell (p:=⟨w.heap.size,0,none⟩) (by simp)).trans (by simp);have c3:w2.cell? ⟨w.heap.size,1,none⟩=some (.string x.D):=(hb2.cell (p:=⟨w.heap.size,1,none⟩) (by simp)).trans (by simp);have HB2:=hid (HB0.out.below hb2);have HG2:=hid (Jae HG0.out (Jan hb2 _));clear hb2 HE;go_wp2_with ((with_reducible show wpList _ _ _ _ _ _);refine Jcr (o:=⟨some 30,_,_,_,_,_⟩) rfl (.tmp 22) (.tmp 29) 94 9 rfl 5 underlying94 byte1 g 0 m m (x.D.extract q x.D.size) rfl rfl _ 5 HB2.out HF.out ?_;intro w3 hw3';have HW3:=hid hw3';clear hw3')
   have hw3:=HW3.out;rw [Je3] at hw3;have hS:=HS.out;have he:(x.D.extract q x.D.size).size=x.D.size - q:=by rw [Joi _ (by omega) (Nat.le_refl _)]
   have hd:(x.D.extract q x.D.size).data.toList=x.D.data.toList.drop q:=by rw [Jcp,List.take_of_length_le (by rw [size_list];exact Nat.le_refl _)]
   rw [he,hd,hS] at hw3;obtain⟨b3,g3⟩:=Jke HB2.out rfl hw3;have H3:=hid (show Buf w3 g (layB l off x)∧w.grownBy w3 (some g) from⟨b3,Jae HG2.out g3⟩);clear hw3 hS b3 g3 he hd;go_wp2_with fail
   go_end0
   exact⟨rfl,H3.out⟩
  ·have HE:=hid (Jlw x off false (w.alloc (.cells #[.int .i64 x.O,.string x.D] 131)) (by omega) (by omega) hz (decide_eq_false h2))
   have HN:=hid (Jqn (l:=l) (off:=off) (x:=x) (by omega));clear h2;go_enter func316,ntmps316
   go_wp2_with fail
   refine HE.out.mono ?_;rintro e w2 ⟨rfl,hb2⟩;have HB2:=hid (HB0.out.below hb2);have HG2:=hid (Jae HG0.out (Jan hb2 _));clear hb2 HE;go_wp2_with fail
   go_end0
   exact⟨rfl,by rw [HN.out];exact HB2.out,HG2.out⟩

theorem Exts.cut {w:World} {B:Nat} {A:Option Addr} {L:List Ex} {cap:Nat} (h:Exts w B A L) (i:Nat) (hc:L.length≤cap):Exts w B (if cap=i then A else A.map (·.add (i*2))) (L.drop i):=fun j x hx=>by
 rw [List.getElem?_drop] at hx;have hlt:i+j<L.length:=(List.getElem?_eq_some_iff.1 hx).1;obtain⟨⟨b,off,hA,hB,c0,c1⟩,h1⟩:=h (i+j) x hx;subst hA;rw [if_neg (by omega)];have add0:(⟨b,off,none⟩:Addr).add (i*2)=⟨b,off+i*2,none⟩:=by
  unfold Addr.add;split<;>simp_all
 rw [show off+(i+j)*2=off+i*2+j*2 by omega] at c0 c1;exact⟨⟨b,off+i*2,by rw [Option.map_some,add0],hB,c0,c1⟩,h1⟩
theorem infoExt:(Tryz.prog.info? 131).map (fun i=>(i.zero,i.size,i.bytes))=some (some (.agg #[.int .i64 0,.string ⟨#[]⟩]),2,24):=by kernel_rfl
theorem infoByte:(Tryz.prog.info? 5).map (fun i=>(i.zero,i.size,i.bytes))=some (some (.int .u8 0),1,1):=by kernel_rfl
theorem Jxd (A:Option Addr) (n cap i:Nat) (h:i≤n) (wx:World):
  (Instr.slice 44 (.slice A n cap) (some (.int .i64 (i:Int))) none none).run prog wx= .ok (.slice (if cap=i then A else A.map (·.add (i*2))) (n - i) (cap - i)) wx:=by
 obtain⟨i0,hi,hz0,hz1,hz2⟩:=info_parts infoExt;have he:Tryz.prog.elem 44=131:=by kernel_rfl
 rw [run_slice_l (P:=prog) wx 44 A n cap (by kernel_rfl) .i64 (i:Int) (by omega) (by omega),he];simp [sizeOf,typeInfo,hi,hz1,Result.andThen,sliced]
theorem Buf.conv {w:World} {g:Nat} {l:List UInt8} (h:Buf w g l) {m:Nat} (hm:l.length=m) (hm2:m≤1048576):
  (convert 94 9 (.slice (some ⟨g,0,none⟩) m m)).run prog w= .ok (.string ⟨l.toArray⟩) w:=by
 subst hm;refine run_convert_bytes_back (P:=prog) w 94 9 5 ⟨g,0,none⟩ l.length l underlying94 underlying5 underlying9
  (Lib.bytes_of_row h (by simp only [];rw [List.take_of_length_le (by rw [Lib.byteCells_length];exact Nat.le_refl _)]))
theorem Jtd {L:List Ex} (hp:L.Pairwise fun x y=>x.O+(x.D.size:Int)≤y.O) {off:Int} {m k:Nat} {x:Ex} (hx:L[k]?=some x):layB (readL (L.take k) off m) off x=readL (L.take (k+1)) off m:=by
 refine List.ext_getElem? fun i=>?_;by_cases hi:i<m
 ·rw [Jk1 (by rw [Jax];exact hi),Jmk hi,Jtz hp hx,List.getD_eq_getElem?_getD,Jmk hi]
  rfl
 ·rw [List.getElem?_eq_none (by rw [Jds,Jax];omega),List.getElem?_eq_none (by rw [Jax];omega)]
theorem Jfx (size off n:Int) (A:Option Addr) (cap:Nat) (L:List Ex) (w:World) (hI:Exts w w.heap.size A L) (hlen:L.length≤4611686018427387903) (hcap:L.length≤cap) (hr:rightB size L=true)
  (ho1: -9223372036854775808≤off) (ho2:off≤9223372036854775807) (hn1: -9223372036854775808≤n) (hn2:n≤9223372036854775807):
  Calls prog 301 #[.int .i64 size,.slice A L.length cap,.int .i64 off,.int .i64 n] w fun e w'=>(∃r:ByteArray,e= .returned (.string r)∧r.data.toList=readB size L off n)∧Below w.heap.size w w':=by
 have HI:=hid hI;have hR:=Jn5.1 hr;have s0:=hR.1.1;have s1:=hR.1.2;have HL:=hid (show ∀x∈L,0≤x.O∧x.O+(x.D.size:Int)≤1048576 from fun x hx=>⟨(hR.2.1 x hx).2.1,Int.le_trans (hR.2.1 x hx).2.2 s1⟩);have HP:=hid hR.2.2;clear hI hr hR;have d1:¬1048576<size:=by omega
 by_cases h0:off<0
 ·have hR:readB size L off n=[]:=by unfold readB countOf;rw [if_pos h0];rfl
  have HR:=hid hR;have g1:decide (off<0)=true:=by simpa using h0
  clear hR;go_enter func301,ntmps301
  go_wp2_with fail
  go_ret
  exact⟨⟨⟨#[]⟩,rfl,HR.out.symm⟩,Below.refl _ _⟩
 have g1:decide (off<0)=false:=by simp;omega
 by_cases h1:size≤off
 ·have hR:readB size L off n=[]:=by unfold readB countOf;rw [if_neg h0,show (min n (size - off)).toNat=0 by omega];rfl
  have HR:=hid hR;have g2:decide (size≤off)=true:=by simpa using h1
  clear hR;go_enter func301,ntmps301
  go_wp2_with fail
  go_ret
  exact⟨⟨⟨#[]⟩,rfl,HR.out.symm⟩,Below.refl _ _⟩
 have g2:decide (size≤off)=false:=by simp;omega
 by_cases h2:n<1
 ·have hR:readB size L off n=[]:=by unfold readB countOf;rw [if_neg h0,show (min n (size - off)).toNat=0 by omega];rfl
  have HR:=hid hR;have g3:decide (n<1)=true:=by simpa using h2
  clear hR;go_enter func301,ntmps301
  go_wp2_with fail
  go_ret
  exact⟨⟨⟨#[]⟩,rfl,HR.out.symm⟩,Below.refl _ _⟩
 have g3:decide (n<1)=false:=by simp;omega
 obtain⟨m,hm⟩:=words.nm (countOf size off n);have hm':m=(min n (size - off)).toNat:=by rw [hm];unfold countOf;rw [if_neg h0]
 have HM:=hid hm;have hm0:1≤m:=by omega
 have hm1:m≤1048576:=by omega
 have hm2:off+(m:Int)≤1048576:=by omega
 have hoff:0≤off:=by omega
 have hoff1:off≤1048576:=by omega
 have HOF:=hid h1;clear hm h1;obtain⟨i0,hi,hz0,hz1,hz2⟩:=info_parts infoByte;have hmk:∀u:World,(Instr.makeSlice 94 (.int .i64 (m:Int)) (.int .i64 (m:Int))).run prog u=
   .ok (.slice (some ⟨u.heap.size,0,none⟩) m m) (u.alloc (.cells (madeCells #[.int .u8 0] m) 5)):=fun u=>by
  have h:=run_make (P:=prog) u 94 5 i0 (.int .u8 0) underlying94 hi hz0 .i64 .i64 (m:Int) (m:Int) (by omega) (Int.le_refl _) (by rw [hz2];omega) (by omega);simpa [hz1,Value.cells] using h
 obtain⟨M,hM⟩:=words.nm (madeCells #[.int .u8 0] m);rw [←hM] at hmk;have hB1:Buf (w.alloc (.cells M 5)) w.heap.size (List.replicate m 0):=by
  unfold Buf;rw [heap_alloc_new,hM];congr 2;apply Array.ext';rw [toList_madeCells_one];simp [Lib.byteCells]
 have HB1:=hid hB1;have HA1:=hid (((Below.refl w.heap.size w).alloc (Nat.le_refl _) (.cells M 5)));clear hB1 hM hz0 hz1 hz2 hi;have hmin:(size - off=(m:Int)∧(m:Int)<n)∨(n=(m:Int)∧¬size - off<(m:Int)):=by omega
 have HMN:=hid hmin;clear hmin hm';rcases HMN.out with⟨e1,e2⟩ |⟨rfl,e2⟩
 all_goals
  go_enter func301,ntmps301
  go_wp2_with fail
  refine (Jpu A cap L off _ ((HI.out.keep HA1.out).more HA1.out.size) hlen HL.out HP.out).mono ?_;rintro e w2 ⟨⟨i,hi,rfl,hlo⟩,hb2⟩;have HB2:=hid (HB1.out.below hb2);have HA2:=hid (HA1.out.trans (hb2.mono HA1.out.size));have hsl:=Jxd A L.length cap i hi;have hcutA:=HI.out.cut i hcap;obtain⟨A2,hA2⟩:=words.nm ((if cap=i then A else A.map (·.add (i*2))));rw [←hA2] at hsl hcutA;have HC:=hid hcutA;have HLO:=hid hlo;clear hb2 hlo hA2 hcutA HB1 HA1;try clear e1
  clear e2;go_wp2_with fail
  clear hsl;go_loopw [37] (fun c wr=>∃k:Nat,k≤L.length - i∧c= .int .i64 k∧Buf wr w.heap.size (readL (L.take (i+k)) off m)∧Below w.heap.size w wr)
   (fun c _=>L.length - i - (intOf c).toNat)
  case atStart=>
   refine⟨0,Nat.zero_le _,rfl,?_,HA2.out⟩;rw [Jnz (L:=L.take (i+0)) fun j _=>Jpq HLO.out (by omega)];exact HB2.out
  case round=>
   obtain⟨k,hk,rfl,hbuf,hbel⟩:=hrel;have HBF:=hid hbuf;have HBL:=hid hbel;clear hbuf hbel;by_cases hlt:k<L.length - i
   ·obtain⟨x,hx⟩:∃x,L[i+k]?=some x:=⟨_,List.getElem?_eq_getElem (by omega)⟩
    obtain⟨⟨b,o,rfl,hB,c0,c1⟩,x1,x2,x3⟩:=(HC.out.keep HBL.out) k x (by rw [List.getElem?_drop];exact hx);obtain⟨x4,x5⟩:=HL.out x (List.mem_of_getElem? hx);have HX:=hid hx;have HBF1:=hid (HBF.out.below ((Below.refl wr.heap.size wr).alloc (Nat.le_refl _) (.cells #[.int .i64 x.O,.string x.D] 131)));have HBL1:=hid (HBL.out.alloc HBL.out.size (.cells #[.int .i64 x.O,.string x.D] 131));clear hx;by_cases hbr:off+(m:Int)≤x.O
    ·have HF:=hid (show readL (L.take (i+k)) off m=readL L off m from (Ju7 fun j hj=>(Juk HP.out HX.out (by omega)).symm))
     have hcv:=HBF1.out.conv (Jax _ _ _) hm1;go_wp2_with fail
     go_ret
     exact⟨⟨_,rfl,by unfold readB;rw [←HM.out];exact HF.out⟩,HBL1.out⟩
    ·have hbr':x.O<off+(m:Int):=by omega
     have HLR:=hid (Jtd HP.out HX.out (off:=off) (m:=m));go_wp2_with fail
     refine (Jv7 w.heap.size m _ off x _ (Jax _ _ _) HBF1.out hoff hoff1 hm1 x4 x5 hbr').mono ?_;rintro e w3 ⟨rfl,hb3,hg3⟩;have HB3:=hid hb3;have HBL3:=hid (show Below w.heap.size w w3 from HBL1.out.trans ⟨hg3.os,hg3.tape,hg3.output,hg3.size,fun q hq=>hg3.block q (Nat.lt_of_lt_of_le hq HBL1.out.size) (fun e=>by injection e with e;omega)⟩);clear hb3 hg3;go_wp2_with fail
     go_roundw
     case rel=>exact⟨k+1,by omega,by go_num,by rw [HLR.out] at HB3;exact HB3.out,HBL3.out⟩
     case measure=>simp [intOf];omega
   ·have HF:=hid (show readL (L.take (i+k)) off m=readL L off m by rw [List.take_of_length_le (by omega)])
    have hcv:=HBF.out.conv (Jax _ _ _) hm1;go_wp2_with fail
    go_ret
    exact⟨⟨_,rfl,by unfold readB;rw [←HM.out];exact HF.out⟩,HBL.out⟩
end Go.Proofs.YtekekhgjobahaaaGreatDoor.ext
