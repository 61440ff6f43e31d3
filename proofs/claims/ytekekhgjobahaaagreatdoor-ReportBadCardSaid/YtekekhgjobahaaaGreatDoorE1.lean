import Derived.Test.YtekekhgjobahaaaGreatDoorB5
set_option maxHeartbeats 800000
set_option maxRecDepth 100000
open Go.Lib (hid)
open Go.Proofs.Tryz
namespace Go.Proofs.YtekekhgjobahaaaGreatDoor.ima
open Go.RowKit words

theorem Jyz {w:World} {g:Nat} {t:TypeId} {v:Value} {R:List Value} (h:w.heap[g]?=some (.cells (v::R).toArray t (0,0))) (u:Value):(w.setCell ⟨g,0,none⟩ u).heap[g]?=some (.cells (u::R).toArray t (0,0)):=by
 simp [World.setCell,Array.getElem?_modify,h]
theorem info5:(Tryz.prog.info? 5).map (fun i=>(i.zero,i.size,i.bytes))=some (some (.int .u8 0),1,1):=by kernel_rfl

def sz (size:Int):Bool:=decide (1≤size∧size≤4)
theorem Jjj (size:Int) (w:World) (h1:1≤size) (h2:size≤4):Calls prog 209 #[.int .i64 size] w fun e w'=>e= .returned (.bool true)∧w=w':=by
 go_enter func209,ntmps209
 go_wp2
 go_ret
 exact⟨rfl,rfl⟩
theorem Jvd (size:Int) (w:World) (h:size<1∨4<size):Calls prog 209 #[.int .i64 size] w fun e w'=>e= .returned (.bool false)∧w=w':=by
 rcases h with h |h
 ·go_enter func209,ntmps209
  go_wp2
  go_ret
  exact⟨rfl,rfl⟩
 ·have h1:1≤size:=by omega
  have h2:decide (size≤4)=false:=by simp;omega
  ·go_enter func209,ntmps209
   go_wp2
   go_ret
   exact⟨rfl,rfl⟩
def byteAt (n:Int) (e:Nat):UInt8:=UInt8.ofNat ((n / 2 ^ (8*e)) % 256).toNat
def be (n:Int) (size:Nat):List UInt8:=(List.range size).map fun k=>byteAt n (size - 1 - k)
theorem Jag (n:Int) (size:Nat):(be n size).length=size:=by simp [be]
theorem Jy1 (n:Int) (size k:Nat) (h:k<size):(be n size).take (k+1)=(be n size).take k++[byteAt n (size - 1 - k)]:=by
 rw [List.take_succ_eq_append_getElem (by rw [Jag];exact h)];simp [be]

theorem Jyy (n:Int) (E:Nat) (h:E≤3):Op.shift .shr .i64 n .i64 (8*(E:Int))=pure (.int .i64 (n / 2 ^ (8*E))):=by
 have h:=shift_shr .i64 .i64 n (8*(E:Int)) (by omega) (by simp [IntKind.bits];omega);have e8:(8*(E:Int)).toNat=8*E:=by omega
 rw [e8] at h;exact h

theorem Jyq {w w1:World} {o:Obj} {b:Nat} {x:Obj} {row:Option Nat} (hb:w.heap[b]?=some x) (hg:(w.alloc o).drew.grownBy w1 row) (hne:row≠some b):w1.heap[b]?=some x:=by
 have h1:(w.alloc o).drew.heap[b]?=some x:=(Below.heap_alloc w o b (lt_of_some hb)).trans hb;exact (hg.block b (lt_of_some h1) (Ne.symm hne)).trans h1
theorem Jxv (n:Int) (E:Nat):[Value.int .u8 (IntKind.u8.wrap (n / 2 ^ (8*E)))]=Lib.byteCells [byteAt n E]:=by
 simp only [Lib.byteCells,List.map_cons,List.map_nil,byteAt,IntKind.wrap_u8];have h1:0≤n / 2 ^ (8*E) % 256:=Int.emod_nonneg _ (by omega);have h2:n / 2 ^ (8*E) % 256<256:=Int.emod_lt_of_pos _ (by omega);have h3:((UInt8.ofNat (n / 2 ^ (8*E) % 256).toNat).toNat:Int)=n / 2 ^ (8*E) % 256:=by
  rw [UInt8.toNat_ofNat'];omega
 rw [h3]

def fits (n size:Int):Bool:=decide (1≤size∧size≤4∧0≤n∧n<2 ^ (8*size.toNat))
theorem Jy0 {n size:Int} (h:fits n size=true):∃s:Nat,size=(s:Int)∧1≤s∧s≤4∧0≤n∧n<2 ^ (8*s):=by
 have h:=of_decide_eq_true h;exact⟨size.toNat,by omega,by omega,by omega,h.2.2.1,h.2.2.2⟩
theorem Jrf {B e src dst:Nat} {v:Value} {bs:List UInt8} {w:World} {P:Program} (ho:w.ownsRow B e 1 v bs.length (Lib.byteCells bs)) (hs:P.underlying src=some (.slice e)) (he:P.underlying e=some (.int .u8)) (hd:P.underlying dst=some .string):
  (convert src dst v).run P w= .ok (.string ⟨bs.toArray⟩) w:=by
 rcases ho.2 with⟨rfl,h0⟩ |⟨g,cap,cur,rfl,_⟩
 ·have:bs=[]:=List.eq_nil_of_length_eq_zero h0
  subst this;exact Lib.run_convert_nil_bytes w src dst e 0 hs he hd
 ·refine run_convert_bytes_back w src dst e ⟨g,0,none⟩ cap bs hs he hd fun j hj=>?_
  exact ho.cells (g:=g) rfl j _ (by simp [Lib.byteCells,hj])


def num (l:List UInt8):Nat:=l.foldl (fun n b=>n*256+b.toNat) 0
theorem Jnd (l:List UInt8) (b:UInt8):num (l++[b])=num l*256+b.toNat:=by simp [num]
theorem Je5:∀(k:Nat) (l:List UInt8),l.length=k→num l<256 ^ k
 |0,l,h=>by
  have:l=[]:=List.eq_nil_of_length_eq_zero h;subst this;simp [num]
 |k+1,l,h=>by
  obtain⟨init,b,rfl⟩:∃init b,l=init++[b]:=⟨l.dropLast,l.getLast (by intro e;subst e;simp at h),(List.dropLast_concat_getLast _).symm⟩
  have hi:=Je5 k init (by simpa using h);have hb:=b.toNat_lt;rw [Jnd,Nat.pow_succ];omega
theorem size_list (s:ByteArray):s.data.toList.length=s.size:=by rw [Array.length_toList];rfl
theorem Ja7 (s:ByteArray) (k:Nat) (h:k<s.size):s.data.toList.take (k+1)=s.data.toList.take k++[s[k]]:=by
 rw [List.take_succ_eq_append_getElem (by simpa using h)];rfl
theorem Jm0 (s:ByteArray) (k:Nat) (h:k<s.size):num (s.data.toList.take (k+1))=num (s.data.toList.take k)*256+s[k].toNat:=by
 rw [Ja7 s k h,Jnd]

theorem Jw8 (n:Int) (k:Nat):n / 2 ^ (8*k) / 256=n / 2 ^ (8*(k+1)):=by
 rw [Int.ediv_ediv_of_nonneg (Int.pow_nonneg (by omega))];rw [show 8*(k+1)=8*k+8 from by omega,Int.pow_add];rfl
theorem Jf3 (s:ByteArray) (w:World) (hs:s.size≤4):Calls prog 94 #[.string s] w fun e w'=>e= .returned (.int .i64 (num s.data.toList:Int))∧w=w':=by
 go_enter func94,ntmps94
 go_wp2
 go_loop [3,4] (fun v c=>∃k:Nat,k≤s.size∧c= .int .i64 k∧v= .int .i64 (num (s.data.toList.take k):Int)) (fun _ c=>s.size - (intOf c).toNat)
 case atStart=>exact⟨0,Nat.zero_le _,rfl,by simp [num]⟩
 case round=>
  obtain⟨k,hk,rfl,rfl⟩:=hrel;have hn:=Je5 k (s.data.toList.take k) (by rw [List.length_take,size_list];omega);have hp:256 ^ k≤256 ^ 4:=Nat.pow_le_pow_right (by omega) (by omega);obtain⟨m,hm⟩:=words.nm (num (s.data.toList.take k));rw [←hm] at hn ⊢;have hm4:m<4294967296:=by omega
  by_cases hlt:k<s.size
  ·have HM:=hid (Jm0 s k hlt)
   have HN:=hid hm;have hb1:(s[k].toNat:Int)≤255:=by have:=s[k].toNat_lt;omega
   have hb0:0≤(s[k].toNat:Int):=by omega
   clear hn hp hm;go_wp2
   go_round
   case rel=>exact⟨k+1,by omega,by go_num,by rw [HM.out,←HN.out];go_num⟩
   case measure=>simp [intOf];omega
  ·have HN:=hid hm
   clear hn hp hm;go_wp2
   go_ret
   refine⟨?_,rfl⟩;have:=HN.out;rw [List.take_of_length_le (by rw [size_list];omega)] at this;show Ending.returned (Value.int .i64 (m:Int))=_;rw [this]

theorem Jxr (n:Int) (s m:Nat) (h:m<s):(be n s).drop m=byteAt n (s - 1 - m)::(be n s).drop (m+1):=by
 rw [List.drop_eq_getElem_cons (by rw [Jag];exact h)];simp [be]
theorem Jta (cs:List Value) (m:Nat) (v:Value) (h:m<cs.length):(cs.set m v).drop m=v::cs.drop (m+1):=by
 rw [List.drop_eq_getElem_cons (by simpa using h),List.getElem_set_self,List.drop_set_of_lt (by omega)]
theorem Ju5 (q:Int) (n:Int) (e:Nat) (h:q=n / 2 ^ (8*e)):Value.int .u8 (q % 256)=Value.int .u8 ((byteAt n e).toNat:Int):=by
 have h1:0≤n / 2 ^ (8*e) % 256:=Int.emod_nonneg _ (by omega);have h2:n / 2 ^ (8*e) % 256<256:=Int.emod_lt_of_pos _ (by omega);have h3:((UInt8.ofNat (n / 2 ^ (8*e) % 256).toNat).toNat:Int)=n / 2 ^ (8*e) % 256:=by
  rw [UInt8.toNat_ofNat'];omega
 rw [byteAt,h3,h]
theorem Juo {w wr:World} {s m:Nat} {cs:List Value} {n q:Int} (hm:m<s) (hq:q=n / 2 ^ (8*(s - 1 - m))) (hcl:cs.length=s) (hb:wr.heap[w.heap.size]?=some (.cells cs.toArray 5 (0,0)))
  (hd:cs.drop (m+1)=Lib.byteCells ((be n s).drop (m+1))) (hbel:Below w.heap.size w wr):
  (cs.set m (.int .u8 (q % 256))).length=s∧(wr.setCell ⟨w.heap.size,m,none⟩ (.int .u8 (q % 256))).heap[w.heap.size]?=some (.cells (cs.set m (.int .u8 (q % 256))).toArray 5 (0,0))∧
   (cs.set m (.int .u8 (q % 256))).drop m=Lib.byteCells ((be n s).drop m)∧Below w.heap.size w (wr.setCell ⟨w.heap.size,m,none⟩ (.int .u8 (q % 256))):=by
 refine⟨by simpa using hcl,by simp [World.setCell,Array.getElem?_modify,hb],?_,hbel.setCell (p:=⟨w.heap.size,m,none⟩) (Nat.le_refl _) _⟩;rw [Jta _ _ _ (by omega),Jxr n s m hm,hd,Ju5 q n _ hq];simp [Lib.byteCells]
theorem Joq (t:ByteArray) (n:Int) (s:Nat) (w:World) (h1:1≤s) (h2:s≤4) (h3:0≤n) (h64:n≤9223372036854775807) (ht:t.size≤1000000000):
  Calls prog 62 #[.string t,.int .i64 n,.int .i64 (s:Int)] w fun e w'=>e= .returned (.string ⟨(t.data.toList++be n s).toArray⟩)∧Below w.heap.size w w':=by
 obtain⟨i0,hi,hz0,hz1,hz2⟩:=info_parts info5;have hmk:∀u:World,(Instr.makeSlice 94 (.int .i64 (s:Int)) (.int .i64 (s:Int))).run prog u=
   .ok (.slice (some ⟨u.heap.size,0,none⟩) s s) (u.alloc (.cells (madeCells #[.int .u8 0] s) 5)):=fun u=>by
  have h:=run_make (P:=prog) u 94 5 i0 (.int .u8 0) underlying94 hi hz0 .i64 .i64 (s:Int) (s:Int) (by omega) (Int.le_refl _) (by rw [hz2];omega) (by omega);simpa [hz1,Value.cells] using h
 go_enter func62,ntmps62
 go_wp2
 clear hmk;go_loopw [1,8] (fun v c wr=>∃(j:Nat) (q:Int) (cs:List Value),j≤s∧c= .int .i64 ((j:Int) - 1)∧v= .int .i64 q∧q=n / 2 ^ (8*(s - j))∧0≤q∧q≤9223372036854775807∧
     cs.length=s∧wr.heap[w.heap.size]?=some (.cells cs.toArray 5 (0,0))∧cs.drop j=Lib.byteCells ((be n s).drop j)∧Below w.heap.size w wr)
   (fun _ c _=>(intOf c+1).toNat)
 case atStart=>
  refine⟨s,n,List.replicate s (.int .u8 0),Nat.le_refl _,rfl,rfl,by simp,h3,h64,by simp,?_,?_,(Below.refl _ _).alloc (Nat.le_refl _) _⟩
  ·rw [heap_alloc_new]
   congr 2;apply Array.ext';rw [toList_madeCells_one]
  ·rw [List.drop_of_length_le (by simp),List.drop_of_length_le (by rw [Jag];exact Nat.le_refl _)]
   rfl
 case round=>
  obtain⟨j,q,cs,hj,rfl,rfl,hq,hq0,hq1,hcl,hb,hd,hbel⟩:=hrel;rcases j with _ |m
  ·have HB:=hid hb
   have HD:=hid hd;have HL:=hid hbel;have HC:=hid hcl;obtain⟨r,hr⟩:∃r:ByteArray,r=⟨(be n s).toArray⟩:=⟨_,rfl⟩
   have hrs:r.size≤4:=by rw [hr];show (be n s).toArray.size≤4;simp [be];omega
   have hcs:cs=Lib.byteCells (be n s):=by simpa using hd
   have hcv:(convert 94 9 (.slice (some ⟨w.heap.size,0,none⟩) s s)).run prog wr= .ok (.string r) wr:=by
    have h:=run_convert_bytes_back (P:=prog) wr 94 9 5 ⟨w.heap.size,0,none⟩ s (be n s) underlying94 underlying5 underlying9
     (Lib.bytes_of_row hb (by rw [Jag];simp only [];rw [hcs,List.take_of_length_le (by rw [Lib.byteCells_length,Jag];exact Nat.le_refl _)]))
    rw [Jag] at h;rw [hr];exact h
   have HR:=hid hr;clear hb hd hbel hcl hq hcs hr;go_wp2
   go_ret
   refine⟨?_,HL.out⟩;show Ending.returned (Value.string (t++r))=_;rw [HR.out];obtain⟨⟨tl⟩⟩:=t;rfl
  ·have e1:((m+1:Nat):Int) - 1=(m:Int):=by omega
   rw [e1];have e2:s - (m+1)=s - 1 - m:=by omega
   rw [e2] at hq;have hm:m<s:=by omega
   have P:=Juo hm hq hcl hb hd hbel;have HP:=hid P;have HQ:=hid hq;have hlt:w.heap.size<wr.heap.size:=lt_of_some hb;have hce:∃u,wr.cell? ⟨w.heap.size,m,none⟩=some u:=⟨_,(Jaa hb m).trans (by simpa using List.getElem?_eq_getElem (by omega))⟩
   obtain⟨u,hu⟩:=hce;have hf:=Jab hb m;have Q2:=hid (Jw8 n (s - 1 - m));clear P hb hd hbel hcl hq e1 e2;go_wp2
   go_roundw
   case rel=>
    refine⟨m,q / 256,_,by omega,rfl,rfl,?_,by omega,by omega,HP.out.1,HP.out.2.1,HP.out.2.2.1,HP.out.2.2.2⟩;rw [HQ.out,Q2.out];congr 3;omega
   case measure=>simp [intOf]

def Rd (g:Nat) (s:ByteArray) (w:World):Prop:=w.heap[g]?=some (.cells #[.string s] 230 (0,0))
abbrev Rs:TypeId→Prop:=fun t=>t=230
theorem Jkm {g B:Nat} {s t:ByteArray} {w:World} (h:Rd g s w) (hB:B≤g):Rd g t (w.setCell ⟨g,0,none⟩ (.string t))∧Kept Rs B w (w.setCell ⟨g,0,none⟩ (.string t)):=
 ⟨Jbo h _,(Kept.refl Rs B w).setCell (p:=⟨g,0,none⟩) hB ⟨_,_,_,h,rfl⟩ _⟩

theorem Jfx (s:ByteArray) (w:World):Calls prog 114 #[.string s] w fun e w'=>e= .returned (.pointer (some ⟨w.heap.size,0,none⟩))∧w.alloc (.cells #[.string s] 230)=w':=by
 go_enter func114,ntmps114
 go_wp2
 go_ret
 exact⟨rfl,rfl⟩
theorem Jtt (g:Nat) (s:ByteArray) (w:World) (h:Rd g s w):Calls prog 116 #[.pointer (some ⟨g,0,none⟩)] w fun e w'=>e= .returned (.int .i64 (s.size:Int))∧w=w':=by
 have hc:w.cell? ⟨g,0,none⟩=some (.string s):=Jaa h 0;clear h;go_enter func116,ntmps116
 go_wp2
 go_ret
 exact⟨rfl,rfl⟩

theorem Jsq (g:Nat) (size:Int) (w:World) (hs:size<1∨4<size):
  Calls prog 175 #[.pointer (some ⟨g,0,none⟩),.int .i64 size] w fun e w'=>e= .returned (.tuple #[.int .i64 0,.bool false])∧w=w':=by
 go_enter func175,ntmps175
 go_wp2_with (go_at_call 209;refine (Jvd _ _ hs).mono ?_;rintro e w' ⟨rfl,rfl⟩)
 go_ret2
 exact⟨rfl,rfl⟩
theorem Jud (g:Nat) (s:ByteArray) (size:Int) (w:World) (h:Rd g s w) (h1:1≤size) (h2:size≤4) (h3:(s.size:Int)<size):
  Calls prog 175 #[.pointer (some ⟨g,0,none⟩),.int .i64 size] w fun e w'=>e= .returned (.tuple #[.int .i64 0,.bool false])∧w=w':=by
 have hc:w.cell? ⟨g,0,none⟩=some (.string s):=Jaa h 0;clear h;go_enter func175,ntmps175
 go_wp2_with (go_at_call 209;refine (Jjj _ _ h1 h2).mono ?_;rintro e w' ⟨rfl,rfl⟩)
 go_ret2
 exact⟨rfl,rfl⟩
theorem Jwm (m b:Nat) (hm:m<4294967296) (hb:b<256):bits .or .i64 ((m:Int)*256) (b:Int)=(m:Int)*256+b:=
 bits_join .i64 62 (by decide) (fun n h0 h1=>by rw [IntKind.wrap_i64];omega) 8 _ _ (by omega) (by omega) (by omega) (by omega) (by omega) (by omega)
theorem Jih (g:Nat) (s:ByteArray) (size:Nat) (w:World) (h:Rd g s w) (h1:1≤size) (h2:size≤4) (h3:size≤s.size) (hs:s.size≤maxLen):
  Calls prog 175 #[.pointer (some ⟨g,0,none⟩),.int .i64 (size:Int)] w fun e w'=>e= .returned (.tuple #[.int .i64 (num (s.data.toList.take size):Int),.bool true])∧
   w.setCell ⟨g,0,none⟩ (.string (s.extract size s.size))=w':=by
 unfold maxLen at hs;have hc:w.cell? ⟨g,0,none⟩=some (.string s):=Jaa h 0;have hf:w.frozen? ⟨g,0,none⟩=false:=Jab h 0;have d3:decide ((s.size:Int)<(size:Int))=false:=by simp;omega
 clear h;go_enter func175,ntmps175
 go_wp2_with (go_at_call 209;refine (Jjj _ _ (by omega) (by omega)).mono ?_;rintro e w' ⟨rfl,rfl⟩)
 clear d3;go_loop [6,7,21] (fun v _ c=>∃k:Nat,k≤size∧c= .int .i64 k∧v= .int .i64 (num (s.data.toList.take k):Int)) (fun _ _ c=>size - (intOf c).toNat)
 case atStart=>exact⟨0,Nat.zero_le _,rfl,by simp [num]⟩
 case round=>
  obtain⟨k,hk,rfl,rfl⟩:=hrel;have hn:=Je5 k (s.data.toList.take k) (by rw [List.length_take,size_list];omega);have hp:256 ^ k≤256 ^ 4:=Nat.pow_le_pow_right (by omega) (by omega);obtain⟨m,hm⟩:=words.nm (num (s.data.toList.take k));rw [←hm] at hn ⊢;have hm4:m<4294967296:=by omega
  by_cases hlt:k<size
  ·have hks:k<s.size:=by omega
   have HM:=hid (Jm0 s k hks);have HN:=hid hm;have hb1:(s[k].toNat:Int)≤255:=by have:=s[k].toNat_lt;omega
   have hb0:0≤(s[k].toNat:Int):=by omega
   have hor:=Jwm m s[k].toNat hm4 (by omega);clear hn hp hm;go_wp2
   go_round
   case rel=>exact⟨k+1,by omega,by go_num,by rw [HM.out,←HN.out];go_num⟩
   case measure=>simp [intOf];omega
  ·have HN:=hid hm
   obtain rfl:k=size:=by omega
   clear hn hp hm;go_wp2
   go_ret2
   refine⟨?_,rfl⟩;show Ending.returned (.tuple #[Value.int .i64 (m:Int),.bool true])=_;rw [HN.out]

theorem Jil (s:ByteArray) (k:Nat):(s.extract k s.size).data.toList=s.data.toList.drop k:=by
 rw [Lib.extract_data,List.take_of_length_le (by rw [List.length_drop,size_list];exact Nat.le_refl _)]
theorem Jr9 (g:Nat) (s:ByteArray) (size:Int) (w:World) (h:Rd g s w) (hs:size<1∨4<size∨(s.size:Int)<size):
  Calls prog 175 #[.pointer (some ⟨g,0,none⟩),.int .i64 size] w fun e w'=>e= .returned (.tuple #[.int .i64 0,.bool false])∧w=w':=by
 by_cases h1:size<1∨4<size
 ·exact Jsq g size w h1
 ·exact Jud g s size w h (by omega) (by omega) (by omega)

theorem Jua (g:Nat) (s:ByteArray) (size:Int) (w:World) (h:Rd g s w) (hs:size<1∨4<size∨(s.size:Int)<size):
  Calls prog 177 #[.pointer (some ⟨g,0,none⟩),.int .i64 size] w fun e w'=>e= .returned (.tuple #[.string ⟨#[]⟩,.bool false])∧w=w':=by
 have hc:w.cell? ⟨g,0,none⟩=some (.string s):=Jaa h 0;have H:=hid h;clear h;go_enter func177,ntmps177
 go_wp2_with (go_at_call 175;refine (Jr9 _ _ _ _ H.out hs).mono ?_;rintro e w' ⟨rfl,rfl⟩)
 go_ret2
 exact⟨rfl,rfl⟩
theorem Jpw (g B:Nat) (s:ByteArray) (size:Nat) (w:World) (h:Rd g s w) (hB:B≤g) (h1:1≤size) (h2:size≤4) (h3:size≤s.size) (hs:s.size≤maxLen) (h4:s.size<size+num (s.data.toList.take size)):
  Calls prog 177 #[.pointer (some ⟨g,0,none⟩),.int .i64 (size:Int)] w fun e w'=>e= .returned (.tuple #[.string ⟨#[]⟩,.bool false])∧Rd g s w'∧Kept Rs B w w':=by
 have hc:w.cell? ⟨g,0,none⟩=some (.string s):=Jaa h 0;have hn:=Je5 size (s.data.toList.take size) (by rw [List.length_take,size_list];omega);have hp:256 ^ size≤256 ^ 4:=Nat.pow_le_pow_right (by omega) (by omega);have P:=Jkm (t:=s.extract size s.size) h hB;have P2:=Jkm (t:=s) P.1 hB;have hf2:(w.setCell ⟨g,0,none⟩ (.string (s.extract size s.size))).frozen? ⟨g,0,none⟩=false:=Jab P.1 0;have hc2:(w.setCell ⟨g,0,none⟩ (.string (s.extract size s.size))).cell? ⟨g,0,none⟩=some (.string (s.extract size s.size)):=Jaa P.1 0;obtain⟨m,hm⟩:=words.nm (num (s.data.toList.take size));have T:=Jih g s size w h h1 h2 h3 hs;rw [←hm] at hn h4 T;have hm4:m<4294967296:=by omega
 have hes:(s.extract size s.size).size=s.size - size:=by rw [ByteArray.size_extract];omega
 have hlt:((s.extract size s.size).size:Int)<(m:Int):=by rw [hes];omega
 obtain⟨t,ht⟩:=words.nm (s.extract size s.size);rw [←ht] at T P P2 hf2 hc2 hlt;have HT:=hid T;have HP:=hid P;have HP2:=hid P2;clear hn hp hm h T P P2 ht hes;go_enter func177,ntmps177
 go_wp2_with (go_at_call 175;refine HT.out.mono ?_;rintro e w' ⟨rfl,rfl⟩)
 go_ret2
 exact⟨rfl,HP2.out.1,HP.out.2.trans HP2.out.2⟩
theorem Jsu (g B:Nat) (s:ByteArray) (size:Nat) (w:World) (h:Rd g s w) (hB:B≤g) (h1:1≤size) (h2:size≤4) (h3:size≤s.size) (hs:s.size≤maxLen) (h4:size+num (s.data.toList.take size)≤s.size):
  Calls prog 177 #[.pointer (some ⟨g,0,none⟩),.int .i64 (size:Int)] w fun e w'=>∃x s':ByteArray,e= .returned (.tuple #[.string x,.bool true])∧
   x.data.toList=(s.data.toList.drop size).take (num (s.data.toList.take size))∧s'.data.toList=s.data.toList.drop (size+num (s.data.toList.take size))∧Rd g s' w'∧Kept Rs B w w':=by
 have hc:w.cell? ⟨g,0,none⟩=some (.string s):=Jaa h 0;have hn:=Je5 size (s.data.toList.take size) (by rw [List.length_take,size_list];omega);have hp:256 ^ size≤256 ^ 4:=Nat.pow_le_pow_right (by omega) (by omega);obtain⟨m,hm⟩:=words.nm (num (s.data.toList.take size));have T:=Jih g s size w h h1 h2 h3 hs;rw [←hm] at hn h4 T ⊢;have hm4:m<4294967296:=by omega
 obtain⟨t,ht⟩:=words.nm (s.extract size s.size);have hes:t.size=s.size - size:=by rw [ht,ByteArray.size_extract];omega
 have hmt:m≤t.size:=by omega
 have P:=Jkm (t:=t) h hB;have P2:=Jkm (t:=t.extract m t.size) P.1 hB;have hf2:(w.setCell ⟨g,0,none⟩ (.string t)).frozen? ⟨g,0,none⟩=false:=Jab P.1 0;have hc2:(w.setCell ⟨g,0,none⟩ (.string t)).cell? ⟨g,0,none⟩=some (.string t):=Jaa P.1 0;rw [←ht] at T;have e1:(t.extract 0 m).data.toList=(s.data.toList.drop size).take m:=by rw [Lib.extract_data,ht,Jil];simp
 have e2:(t.extract m t.size).data.toList=s.data.toList.drop (size+m):=by rw [Jil,ht,Jil,List.drop_drop]
 have E1:=hid e1;have E2:=hid e2;have HT:=hid T;have HP:=hid P;have HP2:=hid P2;clear hn hp hm h T P P2 ht hes e1 e2;go_enter func177,ntmps177
 go_wp2_with (go_at_call 175;refine HT.out.mono ?_;rintro e w' ⟨rfl,rfl⟩)
 go_ret2
 exact⟨_,_,rfl,E1.out,E2.out,HP2.out.1,HP.out.2.trans HP2.out.2⟩
end Go.Proofs.YtekekhgjobahaaaGreatDoor.ima

namespace Go.Proofs.YtekekhgjobahaaaGreatDoor.ima
open Go.RowKit ext name tre

def exB (E:List Ex):List UInt8:=E.flatMap fun x=>be x.O 4++(be (x.D.size:Int) 4++x.D.data.toList)
mutual
def nb:Nd→List UInt8
 | .mk K O N I S E T=>be K 1++(if K=1 then be S 4++(be (E.length:Int) 4++exB E) else if K=2 then be (if O then 1 else 0) 1++(be (I.length:Int) 2++itB N I) else if K=3 then be (T.size:Int) 2++T.data.toList else [])
def itB:List ByteArray→List Nd→List UInt8
 |s::N,x::I=>be (s.size:Int) 1++(s.data.toList++nb x)++itB N I
 |_,_=>[]
end
def bodyB (n:Nd):List UInt8:=if n.K=1 then be n.S 4++(be (n.E.length:Int) 4++exB n.E) else if n.K=2 then be (if n.O then 1 else 0) 1++(be (n.I.length:Int) 2++itB n.N n.I) else if n.K=3 then be (n.T.size:Int) 2++n.T.data.toList else []
theorem Jd4 (n:Nd):nb n=be n.K 1++bodyB n:=by cases n;rw [nb];rfl
theorem Jlf (N:List ByteArray):itB N []=[]:=by cases N<;>rw [itB];all_goals (intros;simp_all)
theorem Jfn (s:ByteArray) (N:List ByteArray) (x:Nd) (I:List Nd):itB (s::N) (x::I)=be (s.size:Int) 1++(s.data.toList++nb x)++itB N I:=by rw [itB]
theorem Jjh {n:Nd} (h:n.K=1):bodyB n=be n.S 4++(be (n.E.length:Int) 4++exB n.E):=by unfold bodyB;rw [if_pos h]
theorem Jff {n:Nd} (h:n.K=2):bodyB n=be (if n.O then 1 else 0) 1++(be (n.I.length:Int) 2++itB n.N n.I):=by unfold bodyB;rw [if_neg (by omega),if_pos h]
theorem Jkp {n:Nd} (h:n.K=3):bodyB n=be (n.T.size:Int) 2++n.T.data.toList:=by unfold bodyB;rw [if_neg (by omega),if_neg (by omega),if_pos h]
theorem Jjs {n:Nd} (h:n.K≠1) (h2:n.K≠2) (h3:n.K≠3):bodyB n=[]:=by unfold bodyB;rw [if_neg h,if_neg h2,if_neg h3]
end Go.Proofs.YtekekhgjobahaaaGreatDoor.ima

namespace Go.Proofs.YtekekhgjobahaaaGreatDoor.ima
open Go.RowKit words ext name tre

def rm (room:Int):List Value:=[.int .i64 room]


theorem Jhy {l:List UInt8} (h:right l=true):l.length≤64:=by
 unfold right at h;simp only [Bool.and_eq_true,decide_eq_true_eq] at h;exact h.1.1.1.1.2
theorem Jdh:∀{N:List ByteArray} {p:Option ByteArray},riseFrom p N=true→∀s∈N,s.size≤64
 |[],_,_,s,hs=>by cases hs
 |t::N,p,h,s,hs=>by
  unfold riseFrom at h;simp only [Bool.and_eq_true] at h;rcases List.mem_cons.1 hs with rfl |hs
  ·have:=Jhy h.1.1
   rwa [ext.size_list] at this
  ·exact Jdh h.2 s hs
theorem Jy6 {n:Nd} (h:oneB n=true) (h2:n.K=2):n.N.length=n.I.length∧∀s∈n.N,s.size≤64:=by
 rw [Jhb h2] at h;simp only [Bool.and_eq_true,beq_iff_eq] at h;exact⟨h.2.1,Jdh h.2.2⟩
theorem Jy5 {n:Nd} (h:oneB n=true) (h3:n.K=3):n.T.size≤256:=by
 rw [Jhk h3] at h;simp only [Bool.and_eq_true] at h;have:=h.2;unfold pathB at this;simp only [Bool.and_eq_true,decide_eq_true_eq] at this;exact this.2
theorem Jy7 {n:Nd} (h:oneB n=true):n.K=1∨n.K=2∨n.K=3∨n.K=4:=by
 by_cases h1:n.K=1
 ·exact .inl h1
 by_cases h2:n.K=2
 ·exact .inr (.inl h2)
 by_cases h3:n.K=3
 ·exact .inr (.inr (.inl h3))
 by_cases h4:n.K=4
 ·exact .inr (.inr (.inr h4))
 rw [Ji5 h1 h2 h3 h4] at h;cases h


def magic:ByteArray:=⟨#[115,111,99,97,103,101,49]⟩
def imgB (n:Nd):ByteArray:=magic++⟨(nb n).toArray⟩
theorem Jkd (n:Nd):(imgB n).size=7+(nb n).length:=by
 unfold imgB;rw [ByteArray.size_append];rfl
end Go.Proofs.YtekekhgjobahaaaGreatDoor.ima
