import Derived.Test.YtcoimjbhoiipoaaGreatDoorG5
import Derived.Lib.BufferRead
set_option maxHeartbeats 1600000
set_option maxRecDepth 100000
open Go.Lib (hid)
open Go.Proofs.Tryz
namespace Go.Proofs.YtcoimjbhoiipoaaGreatDoor.cal
open Go.RowKit words

theorem below_grow (w:World) (k:Nat) (os:Array Obj):Below w.heap.size w (Sort.grow (w.drewN k) os):=
 ⟨rfl,rfl,rfl,by show w.heap.size≤(w.heap++os).size;rw [Array.size_append];omega,fun i hi=>by
   show (w.heap++os)[i]?=_;rw [Array.getElem?_append_left hi]⟩
def I64 (n:Int):Prop:= -9223372036854775808≤n∧n≤9223372036854775807
theorem Jo4 (m:Int) (n:Int) (w:World) (hn:I64 n) (hE:Env m w):
  Calls prog 91 #[.int .i64 n] w fun e w'=>(∃r:ByteArray,e= .returned (.string r)∧r.data.toList=Lib.itoa n)∧Below w.heap.size w w':=by
 refine (Tryz.strconv_Itoa n hn.1 hn.2 w hE.tab).mono ?_;rintro e w' ⟨rfl,k,os,rfl⟩;exact⟨⟨_,rfl,Jck _⟩,below_grow w k os⟩
def NumOut (l:List UInt8) (e:Ending):Prop:=(numP l=none∧e= .returned (.tuple #[.int .i64 0,.bool false]))∨(∃n:Int,numP l=some n∧e= .returned (.tuple #[.int .i64 n,.bool true]))
theorem Jai (m:Int) (s:ByteArray) (w:World) (hs:s.size≤1000000000) (hE:Env m w):
  Calls prog 66 #[.string s] w fun e w'=>NumOut s.data.toList e∧Below w.heap.size w w':=by
 have HE:=hid hE;cases ha:Lib.atoiAll s.data.toList with
 |ok v=>
  have hv:I64 v:=Lib.atoiAll_bounds ha;have HA:=hid (Tryz.strconv_Atoi_ok s (by omega) v ha w);have HN:Hid (numP s.data.toList=if Lib.itoa v=s.data.toList then some v else none):=hid (by unfold numP;rw [ha]);have HV:=hid hv;clear ha hE hv;go_enter func66,ntmps66
  go_wp2_with fail
  refine HA.out.mono ?_;rintro e w1 ⟨rfl,hw1⟩;have hb1:Below w.heap.size w w1:=by
   rcases hw1 with rfl |⟨t,rfl⟩
   ·exact Below.refl _ _
   ·exact Lib.bytesWorld_below _ _ _
  have HI:=hid (Jo4 m v w1 HV.out (HE.out.later hb1));have HB1:=hid hb1;clear hb1 hw1 HA;go_wp2_with fail
  refine HI.out.mono ?_;rintro e w2 ⟨⟨r,rfl,hr⟩,hb2⟩;have HF:=hid (HB1.out.trans (hb2.mono HB1.out.size));clear hb2 HI;by_cases hc:r=s
  ·have g1:(r.toList==s.toList)=true:=by rw [hc];exact beq_self_eq_true _
   have HO:Hid (NumOut s.data.toList (.returned (.tuple #[.int .i64 v,.bool true]))):=hid (.inr ⟨v,by rw [HN.out,if_pos (by rw [←hr,hc])],rfl⟩);clear hc hr;go_wp2_with fail
   go_ret2
   exact⟨HO.out,HF.out⟩
  ·have g1:(r.toList==s.toList)=false:=by rw [beq_eq_false_iff_ne];exact fun h=>hc (Jcx (by rw [←to_list,←to_list];exact h))
   have HO:Hid (NumOut s.data.toList (.returned (.tuple #[.int .i64 0,.bool false]))):=hid (.inl ⟨by rw [HN.out,if_neg (fun h=>hc (Jcx (hr.trans h)))],rfl⟩);clear hc hr;go_wp2_with fail
   go_ret2
   exact⟨HO.out,HF.out⟩
 |range=>
  obtain⟨tp,p,hv⟩:=hE.rng;have HA:=hid (Tryz.strconv_Atoi_range_var s (by omega) ha tp p w hv);have HO:Hid (NumOut s.data.toList (.returned (.tuple #[.int .i64 0,.bool false]))):=hid (.inl ⟨by unfold numP;rw [ha],rfl⟩);clear ha hE hv;go_enter func66,ntmps66
  go_wp2_with fail
  refine HA.out.mono ?_;rintro e w1 ⟨N,rfl,_,_,hb⟩;have HF:=hid hb;clear hb HA;go_wp2_with fail
  go_ret2
  exact⟨HO.out,HF.out⟩
 |_=>
  obtain⟨tp,p,hv⟩:=hE.syn;have HA:=hid (Tryz.strconv_Atoi_syntax_var s (by omega) ⟨fun n h=>(by rw [ha] at h;cases h),fun h=>(by rw [ha] at h;cases h)⟩ tp p w hv);have HO:Hid (NumOut s.data.toList (.returned (.tuple #[.int .i64 0,.bool false]))):=hid (.inl ⟨by unfold numP;rw [ha],rfl⟩);clear ha hE hv;go_enter func66,ntmps66
  go_wp2_with fail
  refine HA.out.mono ?_;rintro e w1 ⟨N,rfl,_,_,hb⟩;have HF:=hid hb;clear hb HA;go_wp2_with fail
  go_ret2
  exact⟨HO.out,HF.out⟩

theorem Je1 {n:Int} (h0:0≤n) (h1:n<10):Lib.itoa n=[UInt8.ofNat (48+n.toNat)]:=by
 unfold Lib.itoa;rw [if_neg (by omega),Jhf (by omega)]

theorem Ja4 {w w1 w2:World} {B:Nat} {v:Value} {e size n:Nat} {xs:List Value} (hb:Below w.heap.size w w1) (hown:w1.ownsRow B e size v n xs) (hg:w1.grownBy w2 v.ownBlock) (hB:w.heap.size≤B):Below w.heap.size w w2:=
 hb.grown hg hb.size (fun k hk=>Nat.le_trans hB (hown.lt k hk).1)
theorem Jal {w w':World} {B e size n:Nat} {v:Value} {xs:List Value} (h:w.ownsRow B e size v n xs) (hb:Below w.heap.size w w'):w'.ownsRow B e size v n xs:=by
 refine⟨h.1,?_⟩;rcases h.2 with h0 |⟨g,cap,cur,hv,hbg,hh,hr⟩
 ·exact .inl h0
 ·exact .inr ⟨g,cap,cur,hv,hbg,(hb.block g (lt_of_some hh)).trans hh,hr⟩
theorem Jng {B n:Nat} {v:Value} {l:List UInt8} {w:World} (ho:w.ownsRow B 5 1 v n (Lib.byteCells l)):
  (convert 82 9 v).run prog w= .ok (.string ⟨l.toArray⟩) w:=by
 have hn:n=l.length:=by have:=ho.1;simpa [Lib.byteCells] using this.symm
 subst hn;rcases ho.2 with⟨rfl,h0⟩ |⟨g,cap,cur,rfl,_⟩
 ·have:l=[]:=List.eq_nil_of_length_eq_zero h0
  subst this;exact Lib.run_convert_nil_bytes w 82 9 5 0 underlying82 underlying5 underlying9
 ·refine run_convert_bytes_back w 82 9 5 ⟨g,0,none⟩ cap l underlying82 underlying5 underlying9 fun j hj=>?_
  exact ho.cells (g:=g) rfl j _ (by simp [Lib.byteCells,hj])

def opV (k:Int) (p:ByteArray) (o n i:Int) (g:ByteArray):Value:= .agg #[.int .i64 k,.string p,.int .i64 o,.int .i64 n,.int .i64 i,.string g]
def opM (k:Int) (p:ByteArray) (o n i:Int) (g:ByteArray):Op:=⟨k,p.data.toList,o,n,i,g.data.toList⟩
def StrOut (l:List UInt8) (w:World) (e:Ending) (w':World):Prop:=(∃r:ByteArray,e= .returned (.string r)∧r.data.toList=l)∧Below w.heap.size w w'
theorem Jo0 (m:Int) (k:Int) (w:World) (hE:Env m w):Calls prog 96 #[.int .i64 k] w (StrOut (wordL k) w):=by
 by_cases h0:k<0
 ·have HW:=hid (show wordL k=[] by unfold wordL;rw [if_pos (.inl h0)])
  go_enter func96,ntmps96
  go_wp2
  go_ret
  exact⟨⟨_,rfl,by rw [HW.out]⟩,Below.refl _ _⟩
 by_cases h1:10≤k
 ·have HW:=hid (show wordL k=[] by unfold wordL;rw [if_pos (.inr h1)])
  go_enter func96,ntmps96
  go_wp2
  go_ret
  exact⟨⟨_,rfl,by rw [HW.out]⟩,Below.refl _ _⟩
 obtain⟨j,rfl⟩:∃j:Nat,k=(j:Int):=⟨k.toNat,by omega⟩
 have hj:j<wds.length:=by show j<10;omega
 obtain⟨x,hx⟩:∃x,wds[j]?=some x:=⟨_,List.getElem?_eq_getElem hj⟩
 have hc:=hE.wds j x hx;have HW:=hid (show wordL (j:Int)=x by
   unfold wordL;rw [if_neg (by omega),List.getD_eq_getElem?_getD,Int.toNat_natCast,hx];rfl)
 obtain⟨xb,hxb⟩:∃xb:ByteArray,xb=⟨x.toArray⟩:=⟨_,rfl⟩
 rw [←hxb] at hc;have HX:=hid hxb;have j1:(j:Int)<10:=by omega
 have j0:(0:Int)≤(j:Int):=by omega
 have j2:¬10≤j:=by omega
 have j3:j<10:=by omega
 clear hx hxb hE hj;go_enter func96,ntmps96
 go_wp2
 go_ret
 exact⟨⟨xb,rfl,by rw [HX.out,HW.out,Jck]⟩,Below.refl _ _⟩
theorem wix (k:Int) (v:Value) (h:∀w:World,Sem.run prog (Instr.index 153 (.agg #[.string ⟨#[]⟩,.string ⟨#[108,111,111,107,117,112]⟩,.string ⟨#[115,116,97,116]⟩,.string ⟨#[114,101,97,100,108,105,110,107]⟩,.string ⟨#[114,101,97,100]⟩,.string ⟨#[111,112,101,110]⟩,.string ⟨#[112,97,103,101]⟩,.string ⟨#[99,108,111,115,101]⟩,.string ⟨#[97,100,100]⟩,.string ⟨#[114,101,109,111,118,101]⟩]) (.int .i64 k)) w= .ok v w) (w:World):Sem.run prog (Instr.index 153 (.agg #[.string ⟨#[]⟩,.string ⟨#[108,111,111,107,117,112]⟩,.string ⟨#[115,116,97,116]⟩,.string ⟨#[114,101,97,100,108,105,110,107]⟩,.string ⟨#[114,101,97,100]⟩,.string ⟨#[111,112,101,110]⟩,.string ⟨#[112,97,103,101]⟩,.string ⟨#[99,108,111,115,101]⟩,.string ⟨#[97,100,100]⟩,.string ⟨#[114,101,109,111,118,101]⟩]) (.int .i64 k)) w= .ok v w:=h w
theorem Jjb (k:Nat) (x:List UInt8) (hx:wds[k]?=some x) (w:World):Sem.run prog (Instr.index 153 (.agg #[.string ⟨#[]⟩,.string ⟨#[108,111,111,107,117,112]⟩,.string ⟨#[115,116,97,116]⟩,.string ⟨#[114,101,97,100,108,105,110,107]⟩,.string ⟨#[114,101,97,100]⟩,.string ⟨#[111,112,101,110]⟩,.string ⟨#[112,97,103,101]⟩,.string ⟨#[99,108,111,115,101]⟩,.string ⟨#[97,100,100]⟩,.string ⟨#[114,101,109,111,118,101]⟩]) (.int .i64 (k:Int))) w= .ok (.string ⟨x.toArray⟩) w:=by
 have hk:k<10:=(List.getElem?_eq_some_iff.1 hx).1;have:k=0∨k=1∨k=2∨k=3∨k=4∨k=5∨k=6∨k=7∨k=8∨k=9:=by omega
 rcases this with rfl |rfl |rfl |rfl |rfl |rfl |rfl |rfl |rfl |rfl<;>(cases hx;exact wix _ _ (fun _=>by kernel_rfl) w)
theorem Jn0 {l:List UInt8} (h:∀i x,i<10→wds[i]?=some x→x≠l):kindL l=0:=by
 unfold kindL;have:wds.findIdx? (·==l)=none:=by
  rw [List.findIdx?_eq_none_iff];intro x hx;obtain⟨i,hi⟩:=List.getElem?_of_mem hx;rw [beq_eq_false_iff_ne];exact h i x (List.getElem?_eq_some_iff.1 hi).1 hi
 rw [this];rfl
theorem Jnz {l:List UInt8} {k:Nat} (hk:wds[k]?=some l) (h:∀i x,i<k→wds[i]?=some x→x≠l):kindL l=(k:Int):=by
 unfold kindL;have:wds.findIdx? (·==l)=some k:=by
  obtain⟨hlt,he⟩:=List.getElem?_eq_some_iff.1 hk;rw [List.findIdx?_eq_some_iff_getElem];refine⟨hlt,by rw [he];exact beq_self_eq_true l,fun j hj=>?_⟩;have hj2:j<wds.length:=by omega
  have:=h j wds[j] hj (List.getElem?_eq_getElem hj2);simpa using this
 rw [this];rfl
theorem Jp2 (m:Int) (s:ByteArray) (w:World) (hE:Env m w):Calls prog 72 #[.string s] w fun e w'=>e= .returned (.int .i64 (kindL s.data.toList))∧w=w':=by
 have h0:=hE.wds 0 _ rfl;have h1:=hE.wds 1 _ rfl;have h2:=hE.wds 2 _ rfl;have h3:=hE.wds 3 _ rfl;have h4:=hE.wds 4 _ rfl;have h5:=hE.wds 5 _ rfl;have h6:=hE.wds 6 _ rfl;have h7:=hE.wds 7 _ rfl;have h8:=hE.wds 8 _ rfl;have h9:=hE.wds 9 _ rfl;clear hE;go_enter func72,ntmps72
 go_wp2_with fail
 go_loop [6] (fun v=>∃k:Nat,k≤10∧v= .int .i64 (k:Int)∧Hid (∀i x,i<k→wds[i]?=some x→x≠s.data.toList)) (fun v=>10 - (intOf v).toNat)
 case atStart=>exact⟨0,by omega,rfl,hid fun i x h=>absurd h (Nat.not_lt_zero _)⟩
 case round=>
  obtain⟨k,hk,rfl,hH⟩:=hrel;have k0:(0:Int)≤(k:Int):=by omega
  by_cases hks:k<10
  ·have k1:(k:Int)<10:=by omega
   obtain⟨x,hx⟩:∃x,wds[k]?=some x:=⟨_,List.getElem?_eq_getElem hks⟩
   have hix:=fun w':World=>Jjb k x hx w';obtain⟨xb,hxb⟩:∃xb:ByteArray,xb=⟨x.toArray⟩:=⟨_,rfl⟩
   rw [←hxb] at hix;have hxd:xb.data.toList=x:=by rw [hxb,Jck]
   by_cases hc:x=s.data.toList
   ·have g:(xb.toList==s.toList)=true:=by rw [to_list,to_list,hxd,hc];exact beq_self_eq_true _
    have HF:=hid (Jnz (by rw [←hc];exact hx) hH.out);clear hx hxb hxd hc;go_wp2_with fail
    go_ret
    exact⟨by rw [HF.out];rfl,rfl⟩
   ·have g:(xb.toList==s.toList)=false:=by rw [to_list,to_list,hxd,beq_eq_false_iff_ne];exact hc
    have HN:Hid (∀i x,i<k+1→wds[i]?=some x→x≠s.data.toList):=hid fun i y hi hy=>by
     rcases Nat.lt_succ_iff_lt_or_eq.1 hi with h |rfl
     ·exact hH.out i y h hy
     ·rw [hx] at hy
      injection hy with hy;rw [←hy];exact hc
    clear hx hxb hxd hc;go_wp2_with fail
    go_round
    case rel=>exact⟨k+1,by omega,by go_num,HN⟩
    case measure=>simp [intOf];omega
  ·obtain rfl:k=10:=by omega
   have HF:=hid (Jn0 hH.out);go_wp2_with fail
   go_ret
   exact⟨by rw [HF.out];rfl,rfl⟩
end Go.Proofs.YtcoimjbhoiipoaaGreatDoor.cal
