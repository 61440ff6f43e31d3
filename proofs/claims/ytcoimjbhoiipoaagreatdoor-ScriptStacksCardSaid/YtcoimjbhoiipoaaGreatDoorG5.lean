import Derived.Test.YtcoimjbhoiipoaaGreatDoorG0
import Derived.Test.YtcoimjbhoiipoaaGreatDoorShelf
set_option maxHeartbeats 3200000
set_option maxRecDepth 100000
open Go.Lib (hid)
open Go.Proofs.Tryz
namespace Go.Proofs.YtcoimjbhoiipoaaGreatDoor.cal
open Go.RowKit words

def Bld (B b:Nat) (l:List UInt8) (w:World):Prop:=Lib.BuilderAt 126 5 B b (.pointer (some ⟨b,0,none⟩)) (Lib.byteCells l) w
theorem info5:(Tryz.prog.info? 5).map (fun i=>(i.zero,i.size,i.bytes))=some (some (.int .u8 0),1,1):=by kernel_rfl
theorem sizeBuilder:(Tryz.prog.info? 126).map (fun i=>i.size)=some 2:=by kernel_rfl
theorem Jlb (b:Nat) (w:World) (h:w.cell? ⟨b,0,none⟩=some (.pointer (some ⟨b,0,none⟩))):
  Calls prog 92 #[.pointer (some ⟨b,0,none⟩)] w fun e w'=>e= .returned (.tuple #[])∧w=w':=by
 obtain⟨j,hj,_⟩:=Option.map_eq_some_iff.1 sizeBuilder;go_enter func92,ntmps92
 go_wp2
 rw [Lib.run_neq_ptr_same w _ underlying124 hj];go_wp2
 go_end0
 exact⟨rfl,rfl⟩
theorem Jl0 (B b:Nat) (l:List UInt8) (c:UInt8) (w:World) (h:Bld B b l w) (hlen:l.length≤4000000000) (hBw:B≤w.heap.size):
  Calls prog 69 #[.pointer (some ⟨b,0,none⟩),.int .u8 (c.toNat:Int)] w fun e w'=>e= .returned .nilIface∧Bld B b (l++[c]) w'∧Below B w w':=by
 obtain⟨i0,hi,hz0,hz1,hz2⟩:=info_parts info5;obtain⟨hB,v,hbk,hown,hne⟩:=h;have c0:w.cell? ⟨b,0,none⟩=some (.pointer (some ⟨b,0,none⟩)):=by rw [Lib.cell_of_heap hbk];rfl
 have c1:w.cell? ⟨b,1,none⟩=some v:=by rw [Lib.cell_of_heap hbk];rfl
 have hbl:(Lib.byteCells l).length=l.length:=by simp [Lib.byteCells]
 rw [hbl] at hown;have HC:=hid (Jlb b w c0);have HO:=hid hown;have HK:=hid hbk;have HN:=hid hne;have HBw:=hid hBw;clear hbl hown hbk hne;go_enter func69,ntmps69
 go_wp2_with fail
 refine HC.out.mono ?_;rintro e w1 ⟨rfl,rfl⟩;clear HC;go_wp2_with (at_builtin;refine wpList_append_own _ rfl _ _ 82 rfl B 5 i0 (.int .u8 0) 1 1 underlying82 hi hz0 hz1 hz2 rfl (by decide) _ _ _ rfl (HO.out.alloc _) ⟨w.heap.size,0,none⟩ 1 1 [.int .u8 (c.toNat:Int)] rfl rfl ?c1 ?c2 ?c3 ?c4 ?c5 ?_)
 case c1=>
  intro j u hj
  match j,hj with
  |0,hj=>simp at hj;subst hj;simp [Addr.add]
 case c2=>intro u hu;simp at hu;subst hu;rfl
 case c3=>unfold maxLen;omega
 case c4=>omega
 case c5=>have:=HBw.out;simp;omega
 intro v' w2 hown' hgrow _;have hlt:b<w.heap.size:=lt_of_some HK.out;have hb2:w2.heap[b]?=some (.cells #[.pointer (some ⟨b,0,none⟩),v] 126 (0,0)):=by
  rw [hgrow.block b (by simp;omega) (fun e=>HN.out e.symm),Lib.alloc_old w _ b hlt];exact HK.out
 have d0:w2.cell? ⟨b,0,none⟩=some (.pointer (some ⟨b,0,none⟩)):=by rw [Lib.cell_of_heap hb2];rfl
 have d1:w2.cell? ⟨b,1,none⟩=some v:=by rw [Lib.cell_of_heap hb2];rfl
 have f1:w2.frozen? ⟨b,1,none⟩=false:=Lib.frozen_of_heap hb2 1;obtain⟨g,cap,rfl⟩:∃g cap,v'= .slice (some ⟨g,0,none⟩) (l.length+1) cap:=by
  rcases hown'.2 with⟨_,h0⟩ |⟨g,cap,cur,hv,_⟩
  ·omega
  ·exact⟨g,cap,hv⟩
 have hend:Bld B b (l++[c]) (w2.setCell ⟨b,1,none⟩ (.slice (some ⟨g,0,none⟩) (l.length+1) cap))∧Below B w (w2.setCell ⟨b,1,none⟩ (.slice (some ⟨g,0,none⟩) (l.length+1) cap)):=by
  refine⟨?_,?_⟩
  ·refine Lib.BuilderAt.put (T:=126) (e:=5) hB hb2 (bs':=Lib.byteCells (l++[c])) ?_ (by decide)
   have e:Lib.byteCells (l++[c])=Lib.byteCells l++[.int .u8 (c.toNat:Int)]:=by simp [Lib.byteCells]
   rw [e];have e2:(Lib.byteCells l++[Value.int .u8 (c.toNat:Int)]).length=l.length+1:=by simp [Lib.byteCells]
   rw [e2];exact hown'
  ·exact (((Below.refl B w).alloc HBw.out _).grown hgrow (by have:=HBw.out;simp;omega) (fun k hk=>(HO.out.lt k hk).1)).setCell (p:=⟨b,1,none⟩) hB _
 have HE:=hid hend;clear hown' hgrow hb2 hend hlt;go_wp2
 go_ret
 exact⟨rfl,HE.out⟩
theorem Jll (B b:Nat) (l:List UInt8) (w:World) (h:Bld B b l w) (hBw:B≤w.heap.size):
  Calls prog 70 #[.pointer (some ⟨b,0,none⟩)] w fun e w'=>e= .returned (.string ⟨l.toArray⟩)∧Below B w w':=Tryz.Builder_String_any B b l w (.inr h) hBw
theorem Jo5 (n:Nat) (w W:World) (hW:W=w.alloc (.cells #[.pointer none,.slice none 0 0] 126)) (hn:n≤281474976710656):
  Calls prog 67 #[.pointer (some ⟨w.heap.size,0,none⟩),.int .i64 (n:Int)] W fun e w'=>e= .returned (.tuple #[])∧Bld w.heap.size w.heap.size [] w'∧Below w.heap.size W w':=by
 subst hW;exact Tryz.Builder_Grow_fresh w.heap.size w.heap.size n _ (Nat.le_refl _) (heap_alloc_new w _) (by simp) hn


theorem Jfg (c:UInt8) (w:World):Calls prog 68 #[.string ⟨#[48,49,50,51,52,53,54,55,56,57,97,98,99,100,101,102]⟩,.int .u8 (c.toNat:Int)] w fun e w'=>e= .returned (.int .i64 (Lib.indexByte dgs c))∧w'=w:=by
 refine (Tryz.strings_IndexByte _ _ w).mono fun e w' ⟨h1,h2⟩=>⟨?_,h2⟩
 rw [h1];have:((c.toNat:Int)).toNat.toUInt8=c:=by simp
 rw [this];rfl
theorem Jk1 (a b:UInt8) (r:List UInt8):unP (a::b::r)=if Lib.indexByte dgs a<0∨Lib.indexByte dgs b<0 then none else (unP r).map (UInt8.ofNat (16*(Lib.indexByte dgs a).toNat+(Lib.indexByte dgs b).toNat)::·):=rfl
theorem Jn3:∀(l:List UInt8) (a b:UInt8) (r:List UInt8),unP l=some r→(0≤Lib.indexByte dgs a∧0≤Lib.indexByte dgs b)→unP (l++[a,b])=some (r++[UInt8.ofNat (16*(Lib.indexByte dgs a).toNat+(Lib.indexByte dgs b).toNat)])
 |[],a,b,r,h,hab=>by
  injection h with h;subst h;show (if _ then _ else _)=_;rw [if_neg (by omega)];rfl
 |[_],_,_,_,h,_=>by cases h
 |x::y::l,a,b,r,h,hab=>by
  have h:(if Lib.indexByte dgs x<0∨Lib.indexByte dgs y<0 then none else (unP l).map (UInt8.ofNat (16*(Lib.indexByte dgs x).toNat+(Lib.indexByte dgs y).toNat)::·))=some r:=h;split at h
  ·cases h
  ·rename_i hn
   obtain⟨t,ht,rfl⟩:=Option.map_eq_some_iff.1 h;have ih:=Jn3 l a b t ht hab;rw [List.cons_append,List.cons_append,Jk1,if_neg hn,ih];rfl
theorem Jjz:∀(l:List UInt8) (a b:UInt8) (t r:List UInt8),unP l=some r→(Lib.indexByte dgs a<0∨Lib.indexByte dgs b<0)→unP (l++a::b::t)=none
 |[],a,b,t,r,_,hab=>by
  show (if _ then _ else _)=_;rw [if_pos hab]
 |[_],_,_,_,_,h,_=>by cases h
 |x::y::l,a,b,t,r,h,hab=>by
  have h:(if Lib.indexByte dgs x<0∨Lib.indexByte dgs y<0 then none else (unP l).map (UInt8.ofNat (16*(Lib.indexByte dgs x).toNat+(Lib.indexByte dgs y).toNat)::·))=some r:=h;split at h
  ·cases h
  ·rename_i hn
   obtain⟨u,hu,rfl⟩:=Option.map_eq_some_iff.1 h;have ih:=Jjz l a b t u hu hab;rw [List.cons_append,List.cons_append,Jk1,if_neg hn,ih];rfl
theorem Jl8:∀l:List UInt8,l.length % 2=1→unP l=none
 |[],h=>by cases h
 |[_],_=>rfl
 |a::b::r,h=>by
  have ih:=Jl8 r (by simp only [List.length_cons] at h;omega);show (if _ then _ else _)=_;rw [ih];split<;>rfl
theorem Jkc (s:ByteArray) (k:Nat) (h:k+1<s.size):s.data.toList.take (k+2)=s.data.toList.take k++[s[k],s[k+1]]:=by
 rw [Jbn s (k+1) h,Jbn s k (by omega),List.append_assoc];rfl
theorem Jin (s:ByteArray) (k:Nat) (h:k+1<s.size):s.data.toList=s.data.toList.take k++s[k]::s[k+1]::s.data.toList.drop (k+2):=by
 have h1:s.data.toList=s.data.toList.take (k+2)++s.data.toList.drop (k+2):=(List.take_append_drop _ _).symm;rw [Jkc s k h,List.append_assoc] at h1;exact h1
theorem Jof (x y:Int) (h0:0≤x) (h1:x<16) (h2:0≤y) (h3:y<16):bits .or .i64 (x*16) y=16*x+y:=by
 have:∀a b:Fin 16,bits .or .i64 ((a.val:Int)*16) (b.val:Int)=16*(a.val:Int)+(b.val:Int):=by decide+kernel
 have:=this ⟨x.toNat,by omega⟩ ⟨y.toNat,by omega⟩;simp only [Int.toNat_of_nonneg h0,Int.toNat_of_nonneg h2] at this;exact this
def BytesOut (l:List UInt8) (e:Ending):Prop:=(unH l=none∧e= .returned (.tuple #[.string ⟨#[]⟩,.bool false]))∨(∃r:ByteArray,unH l=some r.data.toList∧e= .returned (.tuple #[.string r,.bool true]))
theorem Jhu (s:ByteArray) (w:World) (hs:s.size≤1000000000):
  Calls prog 46 #[.string s] w fun e w'=>BytesOut s.data.toList e∧Below w.heap.size w w':=by
 by_cases e0:s.data.toList=[45]
 ·have f0:(s.toList==[45])=true:=by rw [to_list,e0];rfl
  have HF:=hid (show BytesOut s.data.toList (.returned (.tuple #[.string ⟨#[]⟩,.bool true])) from .inr ⟨⟨#[]⟩,by rw [e0];rfl,rfl⟩);clear e0;go_enter func46,ntmps46
  go_wp2
  go_ret2
  exact⟨HF.out,Below.refl _ _⟩
 have f0:(s.toList==[45])=false:=by rw [to_list];simpa using e0
 by_cases e1:s.data.toList=[]
 ·have f1:s.toList.isEmpty=true:=by rw [to_list,e1];rfl
  have HF:=hid (show BytesOut s.data.toList (.returned (.tuple #[.string ⟨#[]⟩,.bool false])) from .inl ⟨by rw [e1];rfl,rfl⟩);clear e0 e1;go_enter func46,ntmps46
  go_wp2
  go_ret2
  exact⟨HF.out,Below.refl _ _⟩
 have f1:s.toList.isEmpty=false:=by rw [to_list];simpa using e1
 have HU:=hid (show unH s.data.toList=unP s.data.toList by unfold unH;rw [if_neg e0,if_neg e1]);clear e0 e1;obtain⟨q,hq⟩:∃q:Int,q=(s.size:Int) % 2:=⟨_,rfl⟩
 have q1:(s.size:Int) % 2=q:=hq.symm;have q2:Int.tmod (s.size:Int) 2=q:=by rw [hq];exact Int.tmod_eq_emod_of_nonneg (by omega)
 by_cases ho:s.size % 2=1
 ·obtain rfl:q=1:=by omega
  have HF:=hid (show BytesOut s.data.toList (.returned (.tuple #[.string ⟨#[]⟩,.bool false])) from .inl ⟨by rw [HU.out,Jl8 _ (by rw [size_list];exact ho)],rfl⟩);clear hq ho;go_enter func46,ntmps46
  go_wp2
  go_ret2
  exact⟨HF.out,Below.refl _ _⟩
 obtain rfl:q=0:=by omega
 clear hq;have HEv:Hid (s.size % 2=0):=hid (by omega);clear ho;obtain⟨W1,hW1⟩:=words.nm (w.alloc (.cells #[.pointer none,.slice none 0 0] 126));have hb1:=words.b1 hW1;have hg:=Jo5 (s.size / 2) w W1 hW1 (by omega);have HG:=hid hg;have HB1:=hid hb1;have HW1:=hid hW1.symm;clear hW1 hb1 hg;go_enter func46,ntmps46
 go_wp2_with fail
 rw [HW1.out];refine HG.out.mono ?_;rintro e w2 ⟨rfl,hbl2,hb2⟩;have H0:Hid (∃r:List UInt8,unP (s.data.toList.take 0)=some r∧r.length≤0∧Bld w.heap.size w.heap.size r w2∧Below w.heap.size w w2):=hid ⟨[],rfl,Nat.le_refl _,hbl2,HB1.out.trans hb2⟩;clear HG HW1 hbl2 hb2 HB1;go_wp2_with fail
 go_loopw [5] (fun v wr=>∃k:Nat,k≤s.size∧v= .int .i64 (k:Int)∧Hid (k % 2=0)∧Hid (∃r:List UInt8,unP (s.data.toList.take k)=some r∧r.length≤k∧Bld w.heap.size w.heap.size r wr∧Below w.heap.size w wr)) (fun v _=>s.size - (intOf v).toNat)
 case atStart=>exact⟨0,Nat.zero_le _,rfl,hid rfl,H0⟩
 case round=>
  clear H0;obtain⟨k,hk,rfl,hpar,hH⟩:=hrel;have k0:(0:Int)≤(k:Int):=by omega
  by_cases hks:k<s.size
  ·have k1:(k:Int)<(s.size:Int):=by omega
   have hks1:k+1<s.size:=by have:=hpar.out;have:=HEv.out;omega
   have k2:(k:Int)+1<(s.size:Int):=by omega
   have k3:(0:Int)≤(k:Int)+1:=by omega
   obtain⟨x,hx⟩:=words.nm (Lib.indexByte dgs s[k]);obtain⟨y,hy⟩:=words.nm (Lib.indexByte dgs s[k+1]);have HI:Hid (∀w':World,Calls prog 68 #[.string ⟨#[48,49,50,51,52,53,54,55,56,57,97,98,99,100,101,102]⟩,.int .u8 (s[k].toNat:Int)] w' fun e w''=>e= .returned (.int .i64 x)∧w''=w'):=hid fun w'=>by rw [hx];exact Jfg _ w'
   have HJ:Hid (∀w':World,Calls prog 68 #[.string ⟨#[48,49,50,51,52,53,54,55,56,57,97,98,99,100,101,102]⟩,.int .u8 (s[k+1].toNat:Int)] w' fun e w''=>e= .returned (.int .i64 y)∧w''=w'):=hid fun w'=>by rw [hy];exact Jfg _ w'
   have hxc:=undig s[k];have hyc:=undig s[k+1];rw [←hx] at hxc;rw [←hy] at hyc;have HX:=hid hx;have HY:=hid hy;have HXc:=hid hxc;have HYc:=hid hyc;clear hx hy hxc hyc;go_wp2_with fail
   go_quiet (first |(go_at_call 68;with_reducible exact Calls.quiet_of_same (HI.out _)) |(go_at_call 68;with_reducible exact Calls.quiet_of_same (HJ.out _)))
   obtain⟨w3,hw3⟩:=words.nm (wr.drewN nq);rw [←hw3];have hH3:∃r:List UInt8,unP (s.data.toList.take k)=some r∧r.length≤k∧Bld w.heap.size w.heap.size r w3∧Below w.heap.size w w3:=by
    obtain⟨r,r1,r2,r3,r4⟩:=hH.out;rw [hw3];exact⟨r,r1,r2,r3,⟨r4.os,r4.tape,r4.output,r4.size,r4.block⟩⟩
   obtain⟨r,r1,r2,r3,r4⟩:=hH3;have HR1:=hid r1;have HR3:=hid r3;have HR4:=hid r4;clear hw3 r1 r3 r4 hH HI HJ;by_cases hx0:x<0
   ·have HF:=hid (show BytesOut s.data.toList (.returned (.tuple #[.string ⟨#[]⟩,.bool false])) from .inl ⟨by rw [HU.out,Jin s k hks1];exact Jjz _ _ _ _ _ HR1.out (.inl (by rw [←HX.out];exact hx0)),rfl⟩)
    go_wp2
    go_ret2
    exact⟨HF.out,HR4.out⟩
   by_cases hy0:y<0
   ·have HF:=hid (show BytesOut s.data.toList (.returned (.tuple #[.string ⟨#[]⟩,.bool false])) from .inl ⟨by rw [HU.out,Jin s k hks1];exact Jjz _ _ _ _ _ HR1.out (.inr (by rw [←HY.out];exact hy0)),rfl⟩)
    go_wp2
    go_ret2
    exact⟨HF.out,HR4.out⟩
   have hx15:0≤x∧x<16:=by rcases HXc.out with h |h<;>omega
   have hy15:0≤y∧y<16:=by rcases HYc.out with h |h<;>omega
   have HN:=hid (Jn3 _ _ _ _ HR1.out (show 0≤Lib.indexByte dgs s[k]∧0≤Lib.indexByte dgs s[k+1] by rw [←HX.out,←HY.out];omega));have hpb:=Jof x y hx15.1 hx15.2 hy15.1 hy15.2;go_wp2_with fail
   obtain⟨c,hc⟩:=words.nm (UInt8.ofNat (16*x.toNat+y.toNat));have hcn:(c.toNat:Int)=16*x+y:=by rw [hc,UInt8.toNat_ofNat'];omega
   have hwb:=Jl0 w.heap.size w.heap.size r c w3 HR3.out (by omega) HR4.out.size;rw [hcn] at hwb;have HWB:=hid hwb;have HC:=hid hc;clear hwb hcn hc;refine HWB.out.mono ?_;rintro e w4 ⟨rfl,hbl4,hb4⟩;have H4:Hid (∃r:List UInt8,unP (s.data.toList.take (k+2))=some r∧r.length≤k+2∧Bld w.heap.size w.heap.size r w4∧Below w.heap.size w w4):=hid ⟨r++[c],by
     rw [Jkc s k hks1,HN.out,HC.out,←HX.out,←HY.out],by rw [List.length_append,List.length_singleton];omega,hbl4,HR4.out.trans hb4⟩
   have HP2:Hid ((k+2) % 2=0):=hid (by have:=hpar.out;omega);clear hbl4 hb4 HWB HR3 HR4 HN;go_wp2_with fail
   go_roundw
   case rel=>exact⟨k+2,by omega,by go_num,HP2,H4⟩
   case measure=>simp [intOf];omega
  ·have k1:¬(k:Int)<(s.size:Int):=by omega
   obtain rfl:k=s.size:=by omega
   obtain⟨r,r1,r2,r3,r4⟩:=hH.out;rw [List.take_of_length_le (by rw [size_list];exact Nat.le_refl _)] at r1;have HS:=hid (Jll _ _ _ wr r3 r4.size);have HR4:=hid r4;have HR1:=hid r1;clear hH r1 r3 r4;go_wp2_with fail
   refine HS.out.mono ?_;rintro e w5 ⟨rfl,hb5⟩;have HF:=hid (HR4.out.trans hb5);obtain⟨b,hb⟩:∃b:ByteArray,b=⟨r.toArray⟩:=⟨_,rfl⟩
   rw [←hb];have HE:Hid (BytesOut s.data.toList (.returned (.tuple #[.string b,.bool true]))):=hid (.inr ⟨b,by rw [HU.out,HR1.out,hb,Jck],rfl⟩);clear hb hb5 HS;go_wp2_with fail
   go_ret2
   exact⟨HE.out,HF.out⟩
end Go.Proofs.YtcoimjbhoiipoaaGreatDoor.cal
