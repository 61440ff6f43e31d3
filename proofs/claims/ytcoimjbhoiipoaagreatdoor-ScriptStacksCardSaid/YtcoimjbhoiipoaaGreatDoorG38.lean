import Derived.Test.YtcoimjbhoiipoaaGreatDoorG37
set_option maxHeartbeats 6400000
set_option maxRecDepth 100000
open Go.Lib (hid)
open Go.Proofs.Tryz
namespace Go.Proofs.YtcoimjbhoiipoaaGreatDoor.ima
open Go.RowKit words ext name tre

theorem Ja2 {s:ByteArray} {p z:Nat} (h:p+z≤s.size):takeP z (s.data.toList.drop p)=some (num ((s.data.toList.drop p).take z),s.data.toList.drop (p+z)):=by
 have hl:s.data.toList.length=s.size:=rfl;unfold takeP;rw [if_pos (by rw [List.length_drop,hl];omega),List.drop_drop]
theorem Jbv {s:ByteArray} {p z:Nat} (h:¬p+z≤s.size) (hz:0<z):takeP z (s.data.toList.drop p)=none:=by
 have hl:s.data.toList.length=s.size:=rfl;unfold takeP;rw [if_neg (by rw [List.length_drop,hl];omega)]
theorem Jbi {s:ByteArray} (h:0<s.size):takeP 1 s.data.toList=some (s[0].toNat,s.data.toList.drop 1):=by
 have hl:s.data.toList.length=s.size:=rfl;have h1:=Ja2 (s:=s) (p:=0) (z:=1) (by omega);rw [List.drop_zero] at h1;rw [h1];have h2:s.data.toList.take 1=[s[0]]:=by
  rcases hs:s.data.toList with _ |⟨a,l⟩
  ·rw [hs] at hl;simp at hl;omega
  ·have:s[0]=a:=by
    have h3:s.data.toList[0]?=some s[0]:=by
     rw [Array.getElem?_toList];exact Array.getElem?_eq_getElem (by exact h)
    rw [hs] at h3;simpa using h3.symm
   rw [this];rfl
 rw [h2];have:num [s[0]]=s[0].toNat:=by simp [num]
 rw [this]
theorem Jk6 {f:Nat} {s:ByteArray} (h:s.size=0):getP f s.data.toList=none:=by
 have hl:s.data.toList.length=s.size:=rfl;have hn:s.data.toList=[]:=List.eq_nil_of_length_eq_zero (by omega);rcases f with _ |f
 ·rfl
 ·rw [Jb8,hn]
  rfl
theorem Jhq {f:Nat} {s:ByteArray} (h:0<s.size) (hk:s[0].toNat=1):getP (f+1) s.data.toList=(fileR s).map fun R=>(.mk 1 false [] [] (numB s 1 4) R.1 ⟨#[]⟩,R.2):=by
 rw [Jb8,Jbi h,hk];simp only [if_true];unfold fileP fileR;by_cases h5:1+4≤s.size
 ·rw [Ja2 h5]
  simp only;by_cases h9:5+4≤s.size
  ·rw [Ja2 h9,Jas h9,Jas h5]
   simp only;rw [if_neg (by omega),Int.toNat_natCast];rcases exP (num ((s.data.toList.drop 5).take 4)) (s.data.toList.drop (5+4)) with _ |⟨E,l⟩<;>rfl
  ·rw [Jbv h9 (by decide),Jcf h9]
   rfl
 ·have h9:numB s 5 4= -1:=Jcf (by omega)
  rw [Jbv h5 (by decide),h9];rfl
theorem Jln {f:Nat} {s:ByteArray} (h:0<s.size) (hk:s[0].toNat=4):getP (f+1) s.data.toList=some (whiteN,s.data.toList.drop 1):=by
 rw [Jb8,Jbi h,hk];rfl
theorem Jlu {f:Nat} {s:ByteArray} (h:0<s.size) (hk:s[0].toNat≠1∧s[0].toNat≠2∧s[0].toNat≠3∧s[0].toNat≠4):getP (f+1) s.data.toList=none:=by
 rw [Jb8,Jbi h];simp only;rw [if_neg hk.1,if_neg hk.2.1,if_neg hk.2.2.1,if_neg hk.2.2.2]
theorem Jik {f:Nat} {s:ByteArray} (h:0<s.size) (hk:s[0].toNat=3) (hn:¬(0≤numB s 1 2∧3+numB s 1 2≤(s.size:Int))):getP (f+1) s.data.toList=none:=by
 have hl:s.data.toList.length=s.size:=rfl;rw [Jb8,Jbi h,hk];simp only;rw [if_neg (by decide),if_neg (by decide),if_pos trivial];unfold textP;by_cases h3:1+2≤s.size
 ·rw [Ja2 h3]
  rw [Jas h3] at hn;simp only;rw [if_neg (by rw [List.length_drop,hl];omega)]
 ·rw [Jbv h3 (by decide)]
theorem Jm9 {f:Nat} {s:ByteArray} {z:Nat} (h:0<s.size) (hk:s[0].toNat=3) (h1:numB s 1 2=(z:Int)) (h2:3+z≤s.size):getP (f+1) s.data.toList=some (linkAt s z,s.data.toList.drop (3+z)):=by
 have hl:s.data.toList.length=s.size:=rfl;rw [Jb8,Jbi h,hk];simp only;rw [if_neg (by decide),if_neg (by decide),if_pos trivial];unfold textP;rw [Ja2 (show 1+2≤s.size by omega)];rw [Jas (show 1+2≤s.size by omega)] at h1;have hz:num ((s.data.toList.drop 1).take 2)=z:=by omega
 simp only;rw [hz,if_pos (by rw [List.length_drop,hl];omega),List.drop_drop];have hx:mkB ((s.data.toList.drop 3).take z)=s.extract 3 (3+z):=by
  have h:=(Jdu s 3 z h2).1;have:mkB (s.extract 3 (3+z)).data.toList=s.extract 3 (3+z):=rfl;rw [h] at this;exact this
 show some (Nd.mk 3 false [] [] 0 [] (mkB ((s.data.toList.drop 3).take z)),_)=_;rw [hx];rfl
theorem Jij {s:ByteArray} {p z:Nat} (h1:numB s p 1=(z:Int)) (h2:p+1+z≤s.size):textP 1 (s.data.toList.drop p)=some ((s.data.toList.drop (p+1)).take z,s.data.toList.drop (p+1+z)):=by
 have hl:s.data.toList.length=s.size:=rfl;unfold textP;rw [Ja2 (show p+1≤s.size by omega)];rw [Jas (show p+1≤s.size by omega)] at h1;have hz:num ((s.data.toList.drop p).take 1)=z:=by omega
 simp only;rw [hz,if_pos (by rw [List.length_drop,hl];omega),List.drop_drop]
theorem Jne {s:ByteArray} {p:Nat} (h:numB s p 1<0∨(s.size:Int)<(p:Int)+1+numB s p 1):textP 1 (s.data.toList.drop p)=none:=by
 have hl:s.data.toList.length=s.size:=rfl;unfold textP;by_cases h3:p+1≤s.size
 ·rw [Ja2 h3]
  rw [Jas h3] at h;simp only;rw [if_neg (by rw [List.length_drop,hl];omega)]
 ·rw [Jbv h3 (by decide)]
theorem Jrn {s:ByteArray} {p z:Nat} (h:p+z≤s.size):mkB ((s.data.toList.drop p).take z)=s.extract p (p+z):=by
 have h1:=(Jdu s p z h).1;have:mkB (s.extract p (p+z)).data.toList=s.extract p (p+z):=rfl;rw [h1] at this;exact this
theorem Jon {f k:Nat} {s:ByteArray} {p c:Nat} (h:numB s p 1<0∨(s.size:Int)<(p:Int)+1+numB s p 1):itP (getC f) (k+1) c (s.data.toList.drop p)=none:=by
 rw [itP,Jne h]
theorem Jq1 {f k:Nat} {s:ByteArray} {p z c:Nat} (h1:numB s p 1=(z:Int)) (h2:p+1+z≤s.size) (h3:getP f (s.data.toList.drop (p+1+z))=none):itP (getC f) (k+1) c (s.data.toList.drop p)=none:=by
 rw [itP,Jij h1 h2];simp only;unfold getC;rw [h3];rfl
theorem Jp1 {f k:Nat} {s:ByteArray} {p z c:Nat} {x:Nd} {l:List UInt8} (h1:numB s p 1=(z:Int)) (h2:p+1+z≤s.size) (h3:getP f (s.data.toList.drop (p+1+z))=some (x,l)):
  itP (getC f) (k+1) c (s.data.toList.drop p)=(itP (getC f) k c l).map fun R=>(s.extract (p+1) (p+1+z)::R.1,x::R.2.1,R.2.2):=by
 rw [itP,Jij h1 h2];simp only;have hg:getC f c (s.data.toList.drop (p+1+z))=some (x,l,c):=by unfold getC;rw [h3];rfl
 rw [hg];simp only;rw [Jrn h2];rcases itP (getC f) k c l with _ |⟨N,I,l3,c3⟩<;>rfl
def dirR (f:Nat) (s:ByteArray):Option (List ByteArray×List Nd×List UInt8×Nat):=if numB s 2 2<0∨1<numB s 1 1 then none else itP (getC f) (numB s 2 2).toNat 0 (s.data.toList.drop 4)
theorem Jg4 {f:Nat} {s:ByteArray} (h:0<s.size) (hk:s[0].toNat=2):getP (f+1) s.data.toList=(dirR f s).map fun R=>(.mk 2 (decide (numB s 1 1=1)) R.1 R.2.1 0 [] ⟨#[]⟩,R.2.2.1):=by
 rw [Jb8,Jbi h,hk];simp only;rw [if_neg (by decide),if_pos trivial];unfold dirP dirR;by_cases h2:1+1≤s.size
 ·rw [Ja2 h2,Jas h2]
  simp only;by_cases h1:1<num ((s.data.toList.drop 1).take 1)
  ·rw [if_pos h1,if_pos (.inr (by omega))]
   rfl
  ·rw [if_neg h1]
   by_cases h4:2+2≤s.size
   ·rw [Ja2 h4,Jas h4,if_neg (by omega),Int.toNat_natCast]
    simp only;have hd:decide (((num ((s.data.toList.drop 1).take 1):Nat):Int)=1)=decide (num ((s.data.toList.drop 1).take 1)=1):=by
     rw [decide_eq_decide];omega
    rw [hd];rcases itP (getC f) (num ((s.data.toList.drop 2).take 2)) 0 (s.data.toList.drop (2+2)) with _ |⟨N,I,l3,c3⟩<;>rfl
   ·rw [Jbv h4 (by decide),Jcf h4,if_pos (.inl (by decide))]
    rfl
 ·have h4:numB s 2 2= -1:=Jcf (by omega)
  rw [Jbv h2 (by decide),h4,if_pos (.inl (by decide))];rfl

theorem Jkf {s:ByteArray} (h:1<s.size):numB s 1 1=(s[1].toNat:Int):=by
 have hl:s.data.toList.length=s.size:=rfl;rw [Jas (by omega)];have h2:(s.data.toList.drop 1).take 1=[s[1]]:=by
  have h3:s.data.toList[1]?=some s[1]:=by
   rw [Array.getElem?_toList];exact Array.getElem?_eq_getElem (by exact h)
  have h4:1<s.data.toList.length:=by omega
  rw [List.getElem?_eq_getElem h4] at h3;rw [List.drop_eq_getElem_cons h4,List.take_succ_cons,List.take_zero];congr 1
 rw [h2];simp [num]
theorem Jls (s:ByteArray) (d:Int) (w:World) (h1:¬15<d) (h2:0<s.size) (hkk:s[0].toNat=2) (hno:numB s 2 2<0∨1<numB s 1 1):
  Calls prog 16 #[.string s,.int .i64 d] w fun e w'=>e= .returned gotN∧Below w.heap.size w w':=by
 obtain⟨q,hq⟩:∃q,numB s 2 2=q:=⟨_,rfl⟩
 have hqb:=Jca s 2 2 (by decide);obtain⟨W2,hW2⟩:=words.nm ((w.alloc (.cells got0 61)).alloc (.cells gotM 61));have hG:GotM w w.heap.size W2:=by rw [hW2];exact GotM.start w
 have HG:=hid hG;obtain⟨g,hg⟩:=words.nm (w.heap.size);have hs2:W2.heap.size=w.heap.size+2:=by rw [hW2];simp
 unfold got0 gotM at hW2;have HW2:=hid hW2;clear hG hW2;go_enter func16,ntmps16
 go_upto_region 2 with fail
 rw [←HW2.out];rw [←hg] at HG hs2 ⊢;clear HW2 hg;have l1:¬(s.size:Int)<1:=by omega
 have l2:(0:Int)<(s.size:Int):=by omega
 have hu:(s[0].toNat:Int)<256:=by have:=s[0].toNat_lt;omega
 go_upto_region 6 with fail
 obtain⟨W3,hW3⟩:=words.nm (W2.alloc (.cells #[.int .i64 2,.bool false,.slice none 0 0,.slice none 0 0,.int .i64 0,.slice none 0 0,.string ⟨#[]⟩] 28));rw [←hW3];have hb3:Below W2.heap.size W2 W3:=words.b1 hW3;have hk3:W3.heap[W2.heap.size]?=some (.cells #[.int .i64 2,.bool false,.slice none 0 0,.slice none 0 0,.int .i64 0,.slice none 0 0,.string ⟨#[]⟩] 28 (0,0)):=by rw [hW3];exact heap_alloc_new W2 _
 rw [hs2] at hk3;replace HG:=hid (HG.out.later hb3);have HK:=hid hk3;clear hW3 hb3 hk3 hs2 hu;clear hkk;have HN1:=hid (show Calls prog 28 #[.string s,.int .i64 2,.int .i64 2] W3 _ from Jai s 2 2 W3 (by decide) (by decide));rw [hq] at HN1 hqb hno;obtain⟨hq0,hq1⟩:=hqb;have HQ:=hid hq;have HNo:=hid hno;clear hq hno;have b0:=Jaa HK.out 0;have b1:=Jaa HK.out 1;have b2:=Jaa HK.out 2;have b3:=Jaa HK.out 3;have b4:=Jaa HK.out 4;have b5:=Jaa HK.out 5;have b6:=Jaa HK.out 6;obtain⟨n0,n1,n2,n3,n4,n5,n6,n7⟩:=HG.out.nons;obtain⟨a0,a1,a2,a3,a4,a5,a6,a7⟩:=HG.out.anss;have z0:=HG.out.free 0;have z1:=HG.out.free 1;have z2:=HG.out.free 2;have z3:=HG.out.free 3;have z4:=HG.out.free 4;have z5:=HG.out.free 5;have z6:=HG.out.free 6;have z7:=HG.out.free 7;go_wp2_with fail
 refine HN1.out.mono ?_;rintro e w4 ⟨rfl,rfl⟩;clear HN1;by_cases hneg:q<0
 ·clear HNo HQ
  go_wp2_with fail
  obtain⟨Wd,hWd,hbd,hkd⟩:=HG.out.none;have p0:=Jaa hkd 0;have p1:=Jaa hkd 1;have p2:=Jaa hkd 2;have p3:=Jaa hkd 3;have p4:=Jaa hkd 4;have p5:=Jaa hkd 5;have p6:=Jaa hkd 6;have p7:=Jaa hkd 7;unfold set8 at hWd;unfold gotM at p0 p1 p2 p3 p4 p5 p6 p7;rw [←hWd];exact bodyPost_ret (v:=gotN) (by simp [results,results16,go_sem,gotN,p0,p1,p2,p3,p4,p5,p6,p7]) rfl ⟨rfl,hbd⟩
 ·have hs4:4≤s.size:=by
   rcases Nat.lt_or_ge s.size 4 with h |h
   ·have:=HQ.out;rw [Jcf (by omega)] at this;omega
   ·exact h
  have hs1:1<s.size:=by omega
  have l3:(1:Int)<(s.size:Int):=by omega
  have hu1:(1:Int)<(s[1].toNat:Int):=by
   rw [←Jkf hs1];rcases HNo.out with h |h
   ·omega
   ·exact h
  have hu2:1<s[1].toNat:=by omega
  clear HNo HQ hs4;go_wp2_with fail
  obtain⟨Wd,hWd,hbd,hkd⟩:=HG.out.none;have p0:=Jaa hkd 0;have p1:=Jaa hkd 1;have p2:=Jaa hkd 2;have p3:=Jaa hkd 3;have p4:=Jaa hkd 4;have p5:=Jaa hkd 5;have p6:=Jaa hkd 6;have p7:=Jaa hkd 7;unfold set8 at hWd;unfold gotM at p0 p1 p2 p3 p4 p5 p6 p7;rw [←hWd];exact bodyPost_ret (v:=gotN) (by simp [results,results16,go_sem,gotN,p0,p1,p2,p3,p4,p5,p6,p7]) rfl ⟨rfl,hbd⟩

def Qg (W:World) (g:Nat) (vn vi:Value) (b:Nat):Prop:=g+3≤b∧b<W.heap.size∧vn.ownBlock≠some b∧vi.ownBlock≠some b
structure Dg (w W:World) (g:Nat) (O:Bool) (bn bi vn vi:Value) (N:List ByteArray) (I J:List Nd) (rs:Nat→Raw):Prop where
 m:GotM w g W
 box:W.heap[g+2]?=some (.cells #[.int .i64 2,.bool O,bn,bi,.int .i64 0,.slice none 0 0,.string ⟨#[]⟩] 28 (0,0))
 nrow:W.ownsRow (g+3) 9 1 vn N.length (N.map Value.string)
 irow:W.ownsRow (g+3) 28 7 vi I.length (rowCells I rs)
 small:∀(i:Nat) (x:ByteArray),N[i]?=some x→x.size≤140737488355328
 items:∀(i:Nat) (x:Nd),J[i]?=some x→NdIn W (Qg W g vn vi) x (rs i)
section
variable {w W W':World} {g:Nat} {O:Bool} {bn bi vn vi vn' vi':Value} {N:List ByteArray} {I J:List Nd} {rs:Nat→Raw}
theorem Dg.lt (h:Dg w W g O bn bi vn vi N I J rs):g+2<W.heap.size:=lt_of_some h.box
theorem Dg.low (h:Dg w W g O bn bi vn vi N I J rs):(∀b,b<g+3→vn.ownBlock≠some b)∧∀b,b<g+3→vi.ownBlock≠some b:=
 ⟨fun b hb e=>by have:=(h.nrow.lt b e).1;omega,fun b hb e=>by have:=(h.irow.lt b e).1;omega⟩
theorem Dg.later (h:Dg w W g O bn bi vn vi N I J rs) (hb:Below W.heap.size W W'):Dg w W' g O bn bi vn vi N I J rs:=
 ⟨h.m.later hb,(hb.block _ (lt_of_some h.box)).trans h.box,Jbm h.nrow hb,Jbm h.irow hb,h.small,fun i x hx=>(h.items i x hx).keep fun b hq=>⟨hb.block b hq.2.1,hq.1,Nat.lt_of_lt_of_le hq.2.1 hb.size,hq.2.2⟩⟩
theorem Dg.apart (h:Dg w W g O bn bi vn vi N I J rs) {b:Nat} (h1:vn.ownBlock=some b):vi.ownBlock≠some b:=by
 rcases h.nrow.2 with⟨rfl,_⟩ |⟨g1,cap,cur,rfl,_,h3,_⟩
 ·simp [Value.ownBlock] at h1
 ·have e:g1=b:=by simpa [Value.ownBlock] using h1
  subst e;exact Jbc h.irow h3 (by decide)
theorem GotM.grown {row:Option Nat} (h:GotM w g W) (hg:W.grownBy W' row) (hr:∀b,b<g+3→some b≠row):GotM w g W':=
 ⟨(hg.block _ (lt_of_some h.ans) (hr _ (by omega))).trans h.ans,(hg.block _ (lt_of_some h.non) (hr _ (by omega))).trans h.non,⟨hg.os.trans h.below.os,hg.tape.trans h.below.tape,hg.output.trans h.below.output,Nat.le_trans h.below.size hg.size,fun k hk=>(hg.block k (Nat.lt_of_lt_of_le hk h.below.size) (hr k (by have:=h.size;omega))).trans (h.below.block k hk)⟩,h.size⟩
theorem Dg.nstay (h:Dg w W g O bn bi vn vi N I J rs) (hg:W.grownBy W' vn.ownBlock):W'.heap[g+2]?=some (.cells #[.int .i64 2,.bool O,bn,bi,.int .i64 0,.slice none 0 0,.string ⟨#[]⟩] 28 (0,0)):=
 (hg.block _ (lt_of_some h.box) (h.low.1 _ (by omega)).symm).trans h.box
theorem Dg.names (h:Dg w W g O bn bi vn vi N I J rs) {x:ByteArray} (hx:x.size≤140737488355328) (hown:W'.ownsRow (g+3) 9 1 vn' (N.length+1) (N.map Value.string++[.string x])) (hg:W.grownBy W' vn.ownBlock)
  (hat:vn.ownBlock=vn'.ownBlock∨vn'.ownBlock=some W.heap.size):Dg w W' g O bn bi vn' vi (N++[x]) I J rs:=by
 refine⟨h.m.grown hg fun b hb=>(h.low.1 b hb).symm,h.nstay hg,?_,Jd4 h.irow hg fun b hb e=>h.apart e.symm hb,fun i y hy=>?_,fun i y hy=>?_⟩
 ·rw [List.length_append,List.map_append]
  exact hown
 ·rcases Nat.lt_or_ge i N.length with hi |hi
  ·rw [List.getElem?_append_left hi] at hy
   exact h.small i y hy
  ·rw [List.getElem?_append_right hi] at hy
   rw [←List.mem_singleton.1 (List.mem_of_getElem? hy)] at hx;exact hx
 ·refine (h.items i y hy).keep fun b hq=>?_
  have e:=hg.block b hq.2.1 fun e=>hq.2.2.1 e.symm;refine⟨e,hq.1,Nat.lt_of_lt_of_le hq.2.1 hg.size,fun e2=>?_,hq.2.2.2⟩;rcases hat with hat |hat
  ·exact hq.2.2.1 (hat.trans e2)
  ·rw [hat] at e2
   injection e2 with e2;have:=hq.2.1;omega
theorem Dg.entry (h:Dg w W g O bn bi vn vi N I J rs) {y:Nd} (hown:W'.ownsRow (g+3) 28 7 vi' (I.length+1) (rowCells (I++[y]) rs)) (hg:W.grownBy W' vi.ownBlock)
  (hat:vi.ownBlock=vi'.ownBlock∨vi'.ownBlock=some W.heap.size):Dg w W' g O bn bi vn vi' N (I++[y]) J rs:=by
 refine⟨h.m.grown hg fun b hb=>(h.low.2 b hb).symm,(hg.block _ (lt_of_some h.box) (h.low.2 _ (by omega)).symm).trans h.box,Jd4 h.nrow hg fun b hb e=>h.apart hb e.symm,?_,h.small,fun i x hx=>?_⟩
 ·rw [List.length_append]
  exact hown
 ·refine (h.items i x hx).keep fun b hq=>?_
  have e:=hg.block b hq.2.1 fun e=>hq.2.2.2 e.symm;refine⟨e,hq.1,Nat.lt_of_lt_of_le hq.2.1 hg.size,hq.2.2.1,fun e2=>?_⟩;rcases hat with hat |hat
  ·exact hq.2.2.2 (hat.trans e2)
  ·rw [hat] at e2
   injection e2 with e2;have:=hq.2.1;omega
theorem Dg.set (h:Dg w W g O bn bi vn vi N I J rs) (j:Nat) (u:Value) {O':Bool} {bn' bi':Value} (hc:(#[.int .i64 2,.bool O,bn,bi,.int .i64 0,.slice none 0 0,.string ⟨#[]⟩]:Array Value).setIfInBounds j u=#[.int .i64 2,.bool O',bn',bi',.int .i64 0,.slice none 0 0,.string ⟨#[]⟩]):
  Dg w (W.setCell ⟨g+2,j,none⟩ u) g O' bn' bi' vn vi N I J rs:=by
 have hsz:=h.m.size;refine⟨⟨by rw [heap_setCell_other _ _ _ _ (by show g≠g+2;omega)];exact h.m.ans,by rw [heap_setCell_other _ _ _ _ (by show g+1≠g+2;omega)];exact h.m.non,h.m.below.setCell (p:=⟨g+2,j,none⟩) (by show w.heap.size≤g+2;omega) _,hsz⟩,?_,Jae (p:=⟨g+2,j,none⟩) h.nrow (h.low.1 _ (by show g+2<g+3;omega)) u,Jae (p:=⟨g+2,j,none⟩) h.irow (h.low.2 _ (by show g+2<g+3;omega)) u,h.small,fun i x hx=>?_⟩
 ·rw [heap_setCell_same W (g+2) j _ _ u h.box,hc]
 ·refine (h.items i x hx).keep fun b hq=>?_
  have hne:b≠g+2:=by have:=hq.1;omega
  exact⟨Below.heap_setCell W ⟨g+2,j,none⟩ u b hne,hq.1,by have:=hq.2.1;simpa [World.setCell] using this,hq.2.2⟩
theorem Dg.pend {W0:World} (h:Dg w W g O bn bi vn vi N I I rs) (h0:Dg w W0 g O bn bi vn vi N I I rs) {y:Nd} {r:Raw} (hy:NdIn W (fun b=>W0.heap.size≤b∧b<W.heap.size) y r):Dg w W g O bn bi vn vi N I (I++[y]) (rsPut rs I.length r):=by
 refine⟨h.m,h.box,h.nrow,?_,h.small,fun i x hx=>?_⟩
 ·rw [Jb2 (rs':=rs) fun i hi=>by unfold rsPut;rw [if_neg (by omega)]]
  exact h.irow
 ·rcases Nat.lt_or_ge i I.length with hi |hi
  ·rw [List.getElem?_append_left hi] at hx
   have:=h.items i x hx;unfold rsPut;rw [if_neg (by omega)];exact this
  ·have hi2:i=I.length:=by
    have:=(List.getElem?_eq_some_iff.1 hx).1;simp at this;omega
   subst hi2;rw [List.getElem?_append_right (Nat.le_refl _),Nat.sub_self] at hx;have e:y=x:=by simpa using hx
   subst e;unfold rsPut;rw [if_pos rfl];refine hy.keep fun b hb=>⟨rfl,by have:=h0.lt;omega,hb.2,fun e=>?_,fun e=>?_⟩
   ·have:=(h0.nrow.lt b e).2
    omega
   ·have:=(h0.irow.lt b e).2
    omega
theorem Dg.node {An Ai:Option Addr} {cn ci:Nat} {w':World} (h:Dg w W g O bn bi (.slice An N.length cn) (.slice Ai I.length ci) N I I rs) (hl:N.length≤100000∧I.length≤100000) (hk:∀b,g+3≤b→b<W.heap.size→w'.heap[b]?=W.heap[b]?) (hs:W.heap.size≤w'.heap.size):
  NdIn w' (Fresh w w') (.mk 2 O N I 0 [] ⟨#[]⟩) ⟨An,cn,Ai,ci,none,0⟩:=by
 have hsz:=h.m.size;obtain⟨An',cn',en,hcn,hzn⟩:=own_facts h.nrow;obtain⟨Ai',ci',ei,hci,hzi⟩:=own_facts h.irow;injection en with e1 _ e2;injection ei with e3 _ e4;subst e1 e2 e3 e4;have hq:∀b,g+3≤b∧b<W.heap.size→w'.heap[b]?=W.heap[b]?∧Fresh w w' b:=fun b hb=>⟨hk b hb.1 hb.2,by omega,by omega⟩
 refine .mk rs ⟨show (-9223372036854775808:Int)≤2 by decide,show (2:Int)≤9223372036854775807 by decide,show (-9223372036854775808:Int)≤0 by decide,show (0:Int)≤9223372036854775807 by decide,show 0≤140737488355328 by decide,by show N.length*16≤140737488355328;omega,by show I.length*112≤140737488355328;omega,show 0*24≤140737488355328 by decide,hcn,hci,Nat.le_refl _,hzn,hzi,fun _=>⟨rfl,rfl⟩⟩ ?_ (fun _ _ hx=>(Jbg hx).elim) ?_ ?_
 ·exact (Jro h.nrow h.small).keep hq
 ·intro i x hx
  have hx':I[i]?=some x:=hx;have h00:=Jaz (rs:=rs) hx' 0 _ (show (rawCells x (rs i))[0]?=some _ from rfl);obtain⟨b,cur,hA,hB,hlt,_,_⟩:=own_cell h.irow h00;refine⟨b,0,hA,(hq b ⟨hB,hlt⟩).2,fun j v hj=>?_⟩;have h7:=Jaz (rs:=rs) hx' j v hj;obtain⟨b',_,hA',_,_,_,hc⟩:=own_cell h.irow h7;rw [hA] at hA';injection hA' with hA';injection hA' with hA';subst hA';rw [Nat.zero_add];exact (World.cell?_of_block (hk b hB hlt)).trans hc
 ·intro i x hx
  exact (h.items i x hx).keep fun b hb=>hq b ⟨hb.1,hb.2.1⟩
end
end Go.Proofs.YtcoimjbhoiipoaaGreatDoor.ima
