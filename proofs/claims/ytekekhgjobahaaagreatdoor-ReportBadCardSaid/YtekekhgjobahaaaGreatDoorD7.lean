import Derived.Test.YtekekhgjobahaaaGreatDoorD6
set_option maxHeartbeats 12800000
set_option maxRecDepth 100000
open Go.Lib (hid)
open Go.Proofs.Tryz
namespace Go.Proofs.YtekekhgjobahaaaGreatDoor.scr
open Go.RowKit words cal

structure Scr (w:World) (S:ScB) (Ai Ac Ap:Option Addr):Prop where
 im:∀(i:Nat) x,S.im[i]?=some x→∃b off,Ai=some ⟨b,off,none⟩∧b<w.heap.size∧w.cell? ⟨b,off+i,none⟩=some (.string x)
 cl:∀(i:Nat) l,S.cl[i]?=some l→∃b off A2 c2,Ac=some ⟨b,off,none⟩∧b<w.heap.size∧w.cell? ⟨b,off+i,none⟩=some (.slice A2 l.length c2)∧
  ∀(j:Nat) o,l[j]?=some o→∃b2 off2,A2=some ⟨b2,off2,none⟩∧b2<w.heap.size∧∀(k:Nat) u,o.c[k]?=some u→w.cell? ⟨b2,off2+j*6+k,none⟩=some u
 pk:∀(i:Nat) x,S.pk[i]?=some x→∃b off,Ap=some ⟨b,off,none⟩∧b<w.heap.size∧w.cell? ⟨b,off+i,none⟩=some (.int .i64 x)
theorem Scr.later {w w':World} {S:ScB} {Ai Ac Ap:Option Addr} (h:Scr w S Ai Ac Ap) (hb:Below w.heap.size w w'):Scr w' S Ai Ac Ap:=by
 have k:∀{b o:Nat} {v:Value},b<w.heap.size→w.cell? ⟨b,o,none⟩=some v→w'.cell? ⟨b,o,none⟩=some v:=fun {b o v} hl hv=>(hb.cell (p:=⟨b,o,none⟩) hl).trans hv;refine⟨fun i x hx=>?_,fun i l hl=>?_,fun i x hx=>?_⟩
 ·obtain⟨b,off,h1,h2,h3⟩:=h.im i x hx
  exact⟨b,off,h1,Nat.lt_of_lt_of_le h2 hb.size,k h2 h3⟩
 ·obtain⟨b,off,A2,c2,h1,h2,h3,h4⟩:=h.cl i l hl
  refine⟨b,off,A2,c2,h1,Nat.lt_of_lt_of_le h2 hb.size,k h2 h3,fun j o ho=>?_⟩;obtain⟨b2,off2,h5,h6,h7⟩:=h4 j o ho;exact⟨b2,off2,h5,Nat.lt_of_lt_of_le h6 hb.size,fun q u hu=>k h6 (h7 q u hu)⟩
 ·obtain⟨b,off,h1,h2,h3⟩:=h.pk i x hx
  exact⟨b,off,h1,Nat.lt_of_lt_of_le h2 hb.size,k h2 h3⟩
theorem Jse {l:List OpB} {j:Nat} {o:OpB} (h:l[j]?=some o) {k:Nat} {u:Value} (hu:o.c[k]?=some u):(opCells l)[j*6+k]?=some u:=by
 have hk:k<6:=by
  have:=(List.getElem?_eq_some_iff.1 hu).1;simpa [OpB.c] using this
 induction l generalizing j with
 |nil=>cases h
 |cons x l ih=>
  have hlen:x.c.length=6:=rfl;show (x.c++opCells l)[j*6+k]?=some u;cases j with
  |zero=>
   obtain rfl:x=o:=by simpa using h
   rw [List.getElem?_append_left (by omega)];simpa using hu
  |succ j=>
   rw [List.getElem?_append_right (by omega)];have:(j+1)*6+k - x.c.length=j*6+k:=by omega
   rw [this];exact ih (by simpa using h)
theorem Own.form {w:World} {B:Nat} {S:ScB} {vi vc vp:Value} (h:Own w B S vi vc vp):∃Ai ci Ac cc Ap cp,vi= .slice Ai S.im.length ci∧vc= .slice Ac S.cl.length cc∧vp= .slice Ap S.pk.length cp∧Scr w S Ai Ac Ap:=by
 obtain⟨vs,h1,h2,h3,_⟩:=h.cl;obtain⟨Ai,ci,e1,_⟩:=lru.own_facts h.im;obtain⟨Ac,cc,e2,_⟩:=lru.own_facts h1;obtain⟨Ap,cp,e3,_⟩:=lru.own_facts h.pk;refine⟨Ai,ci,Ac,cc,Ap,cp,e1,e2,e3,fun i x hx=>?_,fun i l hl=>?_,fun i x hx=>?_⟩
 ·obtain⟨g,c,q1,_,q2,q3⟩:=lru.own_at h.im (j:=i) (u:= .string x) (by rw [List.getElem?_map,hx];rfl)
  rw [e1] at q1;injection q1 with q1;exact⟨g,0,q1,q2,by rw [Nat.zero_add];exact q3⟩
 ·have hi:i<S.cl.length:=(List.getElem?_eq_some_iff.1 hl).1
  obtain⟨v,hv⟩:∃v,vs[i]?=some v:=⟨_,List.getElem?_eq_getElem (by omega)⟩
  obtain⟨g,c,q1,_,q2,q3⟩:=lru.own_at h1 hv;rw [e2] at q1;injection q1 with q1;have hr:=h3 i v l hv hl;obtain⟨A2,c2,e4,_⟩:=lru.own_facts hr;subst e4;refine⟨g,0,A2,c2,q1,q2,by rw [Nat.zero_add];exact q3,fun j o ho=>?_⟩;obtain⟨g2,_,q4,_,q5,_⟩:=lru.own_at hr (j:=j*6+0) (u:= .int .i64 o.K) (Jse ho rfl);injection q4 with q4;refine⟨g2,0,q4,q5,fun k u hu=>?_⟩;obtain⟨g3,_,q6,_,_,q7⟩:=lru.own_at hr (j:=j*6+k) (u:=u) (Jse ho hu);injection q6 with q6;rw [q4] at q6;injection q6 with q6;injection q6 with q6;subst q6;rw [Nat.zero_add];exact q7
 ·obtain⟨g,c,q1,_,q2,q3⟩:=lru.own_at h.pk (j:=i) (u:= .int .i64 x) (by rw [List.getElem?_map,hx];rfl)
  rw [e3] at q1;injection q1 with q1;exact⟨g,0,q1,q2,by rw [Nat.zero_add];exact q3⟩

def opsB (l:List OpB):Bool:=l.all fun o=>onlyM o.m
def mayB (S:ScB):Bool:=S.cl.all opsB
theorem Jyx {α:Type} {f:α→Bool} {l:List α} {i:Nat} {x:α} (h:l[i]?=some x):(l.take (i+1)).all f=((l.take i).all f&&f x):=by
 rw [List.take_add_one,h];simp
theorem Jyr {α:Type} {f:α→Bool} {l:List α} {x:α} (h:x∈l) (hf:f x=false):l.all f=false:=by
 rw [List.all_eq_false];exact⟨x,h,by simp [hf]⟩
theorem Jy2 {w W1:World} {S:ScB} {vi vc vp:Value} {T:TypeId} (hW:W1=w.alloc (.cells #[.int .i64 S.sh,.int .i64 S.rm,.int .i64 S.cu,vi,vc,vp] T)):
  Below w.heap.size w W1∧W1.heap[w.heap.size]?=some (.cells #[.int .i64 S.sh,.int .i64 S.rm,.int .i64 S.cu,vi,vc,vp] T (0,0)):=by
 subst hW;exact⟨(Below.refl _ _).alloc (Nat.le_refl _) _,heap_alloc_new w _⟩

theorem Jim {n:Int} (hn:I64 n) {r:ByteArray} (h:r.data.toList=Lib.itoa n):r.size≤21:=by
 rw [←size_list,h];exact Lib.itoa_length_le n hn.1 hn.2
theorem Jf6 (a b:List (List UInt8)):textT (a++b)=textT a++textT b:=by simp [textT]
theorem Jf5 (p:List UInt8):textT [p]=p++[10]:=by simp [textT]
theorem Jug {s:Sc} {a b:List (List UInt8)} (h:linesM s=a++b):(textT a).length≤(printM s).length:=by
 unfold printM;rw [h,Jf6,List.length_append];omega
def p1 (s:Sc) (i:Nat):List (List UInt8):=roomL s::(s.im.take i).map imageL
def p2 (s:Sc) (i:Nat):List (List UInt8):=roomL s::(s.im.map imageL++(s.cl.take i).flatMap clientL)
def p3 (s:Sc) (i:Nat) (l:List cal.Op) (j:Nat):List (List UInt8):=p2 s i++clientW::(l.take j).map textM
def p4 (s:Sc) (i:Nat):List UInt8:=textT (p2 s s.cl.length)++pickW++(s.pk.take i).flatMap fun n=>32::Lib.itoa n
theorem Jw2 (s:Sc) (i:Nat):∃b,linesM s=p1 s i++b:=⟨(s.im.drop i).map imageL++s.cl.flatMap clientL++(if s.pk=[] then [] else [pickL s.pk]),by
  unfold linesM p1;rw [List.cons_append];congr 1;simp only [←List.append_assoc,←List.map_append,List.take_append_drop]⟩
theorem Jwy {s:Sc} {i:Nat} {x:List UInt8} (h:s.im[i]?=some x):p1 s (i+1)=p1 s i++[imageL x]:=by
 unfold p1;rw [List.take_add_one,h];simp
theorem Jx4 (s:Sc):p1 s s.im.length=p2 s 0:=by
 unfold p1 p2;simp
theorem Jql:∀(ns:List Int),ns≠[]→32::joinC 32 (ns.map Lib.itoa)=ns.flatMap fun n=>32::Lib.itoa n
 |[],h=>absurd rfl h
 |[a],_=>by simp [joinC]
 |a::b::r,_=>by
  have:=Jql (b::r) (by simp);rw [List.map_cons,Jbz _ _ (by simp),List.flatMap_cons,←this];rfl
theorem Jpp {s:Sc} (h:s.pk=[]):printM s=textT (p2 s s.cl.length):=by
 unfold printM linesM p2;rw [if_pos h,List.append_nil,List.take_length]

def cntL (l:List UInt8) (ns:List Int):List UInt8:=l++ns.flatMap fun n=>32::Lib.itoa n
theorem Jur {l:List UInt8} {ns:List Int} {i:Nat} {n:Int} (h:ns[i]?=some n):cntL l (ns.take (i+1))=cntL l (ns.take i)++[32]++Lib.itoa n:=by
 unfold cntL;rw [List.take_add_one,h];simp
theorem Jlb {l:List UInt8}:∀{ns:List Int},(∀n∈ns,I64 n)→(cntL l ns).length≤l.length+22*ns.length
 |[],_=>by simp [cntL]
 |n::ns,h=>by
  have ih:=Jlb (l:=l) (ns:=ns) fun k hk=>h k (List.mem_cons_of_mem _ hk);have hn:=h n (List.mem_cons_self ..);have:=Lib.itoa_length_le n hn.1 hn.2;unfold cntL at ih ⊢;simp at ih ⊢;omega
theorem Jmd (m:Int) (s:ByteArray) (A:Option Addr) (ns:List Int) (c:Nat) (w:World) (hs:s.size≤100) (hR:∀(i:Nat) x,ns[i]?=some x→∃b off,A=some ⟨b,off,none⟩∧b<w.heap.size∧w.cell? ⟨b,off+i,none⟩=some (.int .i64 x))
  (hN:∀n∈ns,I64 n) (hl:ns.length≤1000000) (hE:Env m w):
  Calls prog 27 #[.string s,.slice A ns.length c] w (StrOut (cntL s.data.toList ns) w):=by
 obtain⟨W1,hW1⟩:=words.nm (w.alloc (.cells #[.pointer none,.slice none 0 0] 100));have hb1:=words.b1 hW1;have hw0:Wrt w.heap.size w.heap.size [] W1:=by rw [hW1];exact Jga w
 have HSt:=hid (Jdq w.heap.size w.heap.size [] s W1 hw0 (by simp) (by omega) hb1.size);have HB1:=hid hb1;have HR:=hid hR;have HN:=hid hN;have HE:=hid hE;have HL:=hid hl;have HS:=hid hs;have HW1:=hid hW1.symm;clear hW1 hb1 hw0 hR hN hl hE hs;go_enter func27,ntmps27
 go_wp2_with fail
 rw [HW1.out];refine HSt.out.mono ?_;rintro e w2 ⟨rfl,hb,hb2⟩;have H0:Hid (Bld w.heap.size w.heap.size (cntL s.data.toList (ns.take 0)) w2∧Below w.heap.size w w2):=hid ⟨by simpa [cntL] using hb,HB1.out.trans hb2⟩;clear HSt hb hb2 HW1;go_wp2_with fail
 go_loopw [12] (fun v wr=>∃k:Nat,k≤ns.length∧v= .int .i64 (k:Int)∧Hid (Bld w.heap.size w.heap.size (cntL s.data.toList (ns.take k)) wr∧Below w.heap.size w wr)) (fun v _=>ns.length - (intOf v).toNat)
 case atStart=>exact⟨0,Nat.zero_le _,rfl,H0⟩
 case round=>
  clear H0;obtain⟨k,hk,rfl,hH⟩:=hrel;have k0:(0:Int)≤(k:Int):=by omega
  have hln:=HL.out;by_cases hks:k<ns.length
  ·have k1:(k:Int)<(ns.length:Int):=by omega
   obtain⟨x,hx⟩:∃x,ns[k]?=some x:=⟨_,List.getElem?_eq_getElem hks⟩
   obtain⟨b,off,rfl,h2,h3⟩:=HR.out k x hx;have hc:=(hH.out.2.cell (p:=⟨b,off+k,none⟩) h2).trans h3;have hxi:=HN.out x (List.mem_of_getElem? hx);have HM:=hid (Jur (l:=s.data.toList) hx);have hlen:(cntL s.data.toList (ns.take k)).length≤30000000:=by
    have:=Jlb (l:=s.data.toList) (ns:=ns.take k) fun n hn=>HN.out n (List.mem_of_mem_take hn);rw [size_list] at this;have:=HS.out;simp at*;omega
   have HBy:=hid (Jmi w.heap.size w.heap.size _ 32 32 rfl wr (.inr hH.out.1) (by omega) hH.out.2.size);have HXi:=hid hxi;have HLn:=hid hlen;clear hx h2 h3 hxi hlen;go_wp2_with fail
   refine HBy.out.mono ?_;rintro e w3 ⟨rfl,hbl3,hb3⟩;have HB3:=hid (hH.out.2.trans hb3);have HI:=hid (Jc1 m x w3 HXi.out (HE.out.later HB3.out));have HBl3:=hid hbl3;clear hbl3 hb3 HBy;go_wp2_with fail
   refine HI.out.mono ?_;rintro e w4 ⟨⟨r,rfl,hr⟩,hb4⟩;have hrz:=Jim HXi.out hr;have hbl4:Bld w.heap.size w.heap.size (cntL s.data.toList (ns.take k)++[32]) w4:=Jg3 HBl3.out hb4;have HB4:=hid (HB3.out.trans (hb4.mono HB3.out.size));have HSt:=hid (Jdq w.heap.size w.heap.size _ r w4 (.inr hbl4) (by rw [List.length_append];have:=HLn.out;simp;omega) (by omega) HB4.out.size);have HRr:=hid hr;clear hbl4 hb4 HI hr hrz;go_wp2_with fail
   refine HSt.out.mono ?_;rintro e w5 ⟨rfl,hbl5,hb5⟩;rw [HRr.out,←HM.out] at hbl5;have H5:=hid (And.intro hbl5 (HB4.out.trans hb5));clear hbl5 hb5 HSt;go_wp2_with fail
   go_roundw
   case rel=>exact⟨k+1,by omega,by go_num,H5⟩
   case measure=>simp [intOf];omega
  ·have k1:¬(k:Int)<(ns.length:Int):=by omega
   obtain rfl:k=ns.length:=by omega
   have h1:=hH.out.1;rw [List.take_length] at h1;have HS:=hid (Jbn _ _ _ wr h1 hH.out.2.size);clear h1;go_wp2_with fail
   refine HS.out.mono ?_;rintro e w5 ⟨rfl,hb5⟩;have HF:=hid (hH.out.2.trans hb5);obtain⟨r,hr⟩:∃r:ByteArray,r=⟨(cntL s.data.toList ns).toArray⟩:=⟨_,rfl⟩
   rw [←hr];have HRr:=hid hr;clear hr hb5 HS;go_wp2_with fail
   go_ret
   exact⟨⟨r,rfl,by rw [HRr.out,Ja9]⟩,HF.out⟩

theorem Js8 (l:List UInt8) (ns:List Int) (h:ns≠[]):cntL l ns=l++32::joinC 32 (ns.map Lib.itoa):=by
 unfold cntL;rw [Jql ns h]
theorem Jnc (s:Sc):cntL roomW [s.sh,s.rm,s.cu]=roomL s:=Js8 roomW _ (by simp)
theorem Jxp {s:Sc} {a:List (List UInt8)} (h:∃b,linesM s=a++b) (hL:(printM s).length≤1000000000):(textT a).length≤4000000000:=by
 obtain⟨b,hb⟩:=h;have:=Jug hb;omega
theorem Jb0 {B b:Nat} {l:List UInt8} {w w':World} (h:Wrt B b l w) (hb:Below w.heap.size w w'):Wrt B b l w':=by
 rcases h with⟨hB,v,hk,ho,hn⟩ |h
 ·exact .inl ⟨hB,v,(hb.block _ (lt_of_some hk)).trans hk,Jai ho hb,hn⟩
 ·exact .inr (Jg3 h hb)
theorem Jjr (m:Int) (n:Nat) (S:ScB) (Ai Ac Ap:Option Addr) (ci cc cp:Nat) (w:World) (hS:Scr w S Ai Ac Ap) (hn:n≤1000000) (hF:FB n S) (hI:∀x∈S.im,x.size≤1000000) (hK:S.pk.length≤1000000) (hL:(printM S.m).length≤1000000000) (hE:Env m w) (hC0:S.cl=[]∧S.pk=[]):
  Calls prog 12 #[scV S (.slice Ai S.im.length ci) (.slice Ac S.cl.length cc) (.slice Ap S.pk.length cp)] w (StrOut (printM S.m) w):=by
 have HC0:=hid hC0;clear hC0;obtain⟨W1,hW1⟩:=words.nm (w.alloc (.cells #[.int .i64 S.sh,.int .i64 S.rm,.int .i64 S.cu,.slice Ai S.im.length ci,.slice Ac S.cl.length cc,.slice Ap S.pk.length cp] 31));obtain⟨hb1,x1⟩:=Jy2 hW1;obtain⟨g,hg⟩:=words.nm (w.heap.size);obtain⟨b0,hb0⟩:=words.nm (W1.heap.size);rw [←hg] at x1;obtain⟨W2,hW2⟩:=words.nm (W1.alloc (.cells #[.pointer none,.slice none 0 0] 100));have hb2:Below b0 W1 W2:=by rw [hW2,hb0];exact (Below.refl _ _).alloc (Nat.le_refl _) _
 have hw0:Wrt b0 b0 [] W2:=by rw [hW2,hb0];exact Jga W1
 obtain⟨W3,hW3⟩:=words.nm (W2.alloc (.cells #[.int .i64 S.sh,.int .i64 S.rm,.int .i64 S.cu] 3));obtain⟨g3,hg3⟩:=words.nm (W2.heap.size);have hk3:W3.heap[g3]?=some (.cells #[.int .i64 S.sh,.int .i64 S.rm,.int .i64 S.cu] 3 (0,0)):=by rw [hW3,hg3];exact heap_alloc_new W2 _
 have hb3:Below W2.heap.size W2 W3:=words.b1 hW3;have hlt3:g3<W3.heap.size:=lt_of_some hk3;have hE3:Env m W3:=hE.later (hb1.trans ((show Below w.heap.size W1 W2 by rw [hW2];exact (Below.refl _ _).alloc hb1.size _).trans (hb3.mono (by rw [hW2];simp;have:=hb1.size;omega))));have HX:=hid x1;have HS:=hid (hS.later hb1);have HB1:=hid hb1;have HB2:=hid hb2;have HFb:=hid hF;have HIm:=hid (And.intro hI hK);have HW1:=hid hW1;have HW2:=hid hW2;have HW3:=hid hW3;have HG:=hid hg;have HG3:=hid hg3;have HG0:=hid hb0;have HG1:Hid (b0=g+1):=hid (by rw [hb0,hg,hW1];simp);have HBt3:=hid hb3;have HE0:=hid hE;obtain⟨s,hs⟩:=words.nm (S.m);have hLs:(printM s).length≤1000000000:=by rw [hs];exact hL
 have HSm:=hid hs;have HLs:=hid hLs;have HWr:=hid hw0;have HC:=hid (Jmd m ⟨#[114,111,111,109]⟩ (some ⟨g3,0,none⟩) [S.sh,S.rm,S.cu] 3 W3 (by decide) (fun i x hx=>⟨g3,0,rfl,hlt3,by
   rw [Lib.cell_of_heap hk3,Nat.zero_add];rcases i with _ |_ |_ |i
   ·obtain rfl:S.sh=x:=by simpa using hx
    rfl
   ·obtain rfl:S.rm=x:=by simpa using hx
    rfl
   ·obtain rfl:S.cu=x:=by simpa using hx
    rfl
   ·simp at hx⟩) (fun n hn=>by
   simp at hn;rcases hn with rfl |rfl |rfl
   ·exact hF.sh
   ·exact hF.rm
   ·exact hF.cu) (by simp) hE3)
 have xr:=(hb2.block _ (by rw [hb0];exact lt_of_some x1)).trans x1;have y0:=Jaa xr 0;have y1:=Jaa xr 1;have y2:=Jaa xr 2;have HN:=hid hn;clear hW1 hW2 hW3 hb1 hb2 hb3 x1 hg hg3 hb0 hS hF hI hK hL hs hE hE3 hw0 hk3 hlt3 xr hLs hn;unfold scV;go_enter func12,ntmps12
 go_upto_region 2 with fail
 rw [←HW1.out];simp only [←HG.out];simp only [←HG1.out];simp only [←HW2.out];clear HW1 HW2;go_wp2_with fail
 simp only [←HG3.out];rw [←HW3.out];refine HC.out.mono ?_;rintro e w4 ⟨⟨r,rfl,hr⟩,hb4⟩;have hr0:r.data.toList=roomL s:=by rw [hr,HSm.out];exact Jnc S.m
 have hrz:r.size≤4000000000:=by
  rw [←size_list,hr0];have h1:=HLs.out;unfold printM linesM textT at h1;simp at h1;omega
 have hb24:Below W2.heap.size W2 w4:=HBt3.out.trans (hb4.mono HBt3.out.size);have hw4:Wrt b0 b0 [] w4:=Jb0 HWr.out hb24;have hb14:Below b0 W1 w4:=HB2.out.trans (hb24.mono (by rw [HG0.out];exact HB2.out.size));have HB4:=hid hb14;have HPt:=hid (Jh6 b0 b0 [] r w4 hw4 (by simp) hrz (by rw [HG0.out];exact hb14.size));have HR0:=hid hr0;clear hr hr0 hrz hb4 hb24 hw4 hb14 HC HW3 HG3 HBt3 HWr y0 y1 y2;go_wp2_with fail
 refine HPt.out.mono ?_;rintro e w5 ⟨rfl,hw5,hb5⟩;have HT0:Hid (Bld b0 b0 (textT (p1 s 0)) w5):=hid (by
   rw [HR0.out] at hw5;unfold p1;simp only [List.take_zero,List.map_nil,Jf5];exact hw5)
 have HB3:=hid (HB4.out.trans hb5);have xr:=(HB3.out.block g (by have:=HG1.out;omega)).trans HX.out;have y1:=Jaa xr 3;clear hw5 hb5 xr HPt HB4 HR0;go_wp2_with fail
 go_loopw [25] (fun v25 wr=>∃(i:Nat),v25= .int .i64 (i:Int)∧i≤S.im.length∧Hid (Bld b0 b0 (textT (p1 s i)) wr)∧Hid (Below b0 W1 wr)) (fun v25 _=>S.im.length - (intOf v25).toNat)
 case atStart=>exact⟨0,rfl,Nat.zero_le _,HT0,HB3⟩
 case round=>
  obtain⟨i,rfl,hi,HT,HB⟩:=hrel;clear HT0 HB3 y1;obtain⟨wq,hwq⟩:=words.nm (wr);subst hwq;have hIn:S.im.length≤1000000:=by have:=HFb.out.li;have:=HN.out;omega
  by_cases hlt:i<S.im.length
  ·obtain⟨x,hx⟩:∃x,S.im[i]?=some x:=⟨_,List.getElem?_eq_getElem hlt⟩
   obtain⟨b,off,rfl,h2,h3⟩:=(HS.out.later (HG0.out▸HB.out)).im i x hx;have hxz:=HIm.out.1 x (List.mem_of_getElem? hx);have hsx:s.im[i]?=some x.data.toList:=by rw [HSm.out];show (S.im.map _)[i]?=_;rw [List.getElem?_map,hx];rfl
   have HM:=hid (Jwy hsx);have HH:=hid (Jww x wq (by omega));have HZ:=hid hxz;have i0:(0:Int)≤(i:Int):=by omega
   have i1:(i:Int)<(S.im.length:Int):=by omega
   clear hx hsx h2 hxz;go_wp2_with fail
   refine HH.out.mono ?_;rintro e w6 ⟨⟨r,rfl,hr⟩,hb6⟩;have hrz:r.size≤2000001:=by
    rw [←size_list,hr];have:=Jfl x.data.toList;rw [size_list] at this;have:=HZ.out;omega
   obtain⟨q,hq⟩:∃q:ByteArray,q=⟨#[105,109,97,103,101,32]⟩++r:=⟨_,rfl⟩
   have hqd:q.data.toList=imageL x.data.toList:=by rw [hq,Jd5,hr];simp [imageL,imageW]
   have hqz:q.size≤2000007:=by
    have e6:(⟨#[105,109,97,103,101,32]⟩:ByteArray).size=6:=rfl;rw [hq,ByteArray.size_append,e6];omega
   have hb06:Below b0 W1 w6:=HB.out.trans (hb6.mono (by rw [HG0.out];exact HB.out.size));have HPt:=hid (Jh6 b0 b0 _ q w6 (.inr (Jg3 HT.out hb6)) (Jxp (Jw2 s i) HLs.out) (by omega) (by rw [HG0.out];exact hb06.size));have HQ:=hid (And.intro hq.symm hqd);have HB6:=hid hb06;have hrz2:¬9223372036854775807<6+r.size:=by omega
   clear hr hrz hq hqd hqz hb06 hb6 HH;go_wp2_with fail
   rw [HQ.out.1];refine HPt.out.mono ?_;rintro e w7 ⟨rfl,hw7,hb7⟩;have HT2:Hid (Bld b0 b0 (textT (p1 s (i+1))) w7):=hid (by
     rw [HM.out,Jf6,Jf5,←HQ.out.2];exact hw7)
   have HB7:=hid (HB6.out.trans hb7);clear hw7 hb7 HPt;go_wp2_with fail
   go_roundw
   case rel=>exact⟨i+1,by go_num,by omega,HT2,HB7⟩
   case measure=>simp [intOf];omega
  ·obtain rfl:i=S.im.length:=by omega
   have HT2:Hid (Bld b0 b0 (textT (p2 s 0)) wq):=hid (by rw [←Jx4,HSm.out];have h1:=HT.out;rw [HSm.out] at h1;simpa [ScB.m] using h1);have xr:=(HB.out.block g (by have:=HG1.out;omega)).trans HX.out;have y4:=Jaa xr 4;clear HT xr;have HB3:=HB;have i1:¬((S.im.length:Nat):Int)<(S.im.length:Int):=by omega
   go_wp2_with fail
   clear hIn hi hlt HB i1;go_loopw [37] (fun v37 wr=>∃(i:Nat),v37= .int .i64 (i:Int)∧i≤S.cl.length∧Hid (Bld b0 b0 (textT (p2 s i)) wr)∧Hid (Below b0 W1 wr)) (fun v37 _=>S.cl.length - (intOf v37).toNat)
   case atStart=>exact⟨0,rfl,Nat.zero_le _,HT2,HB3⟩
   case round=>
    obtain⟨i,rfl,hi,HT,HB⟩:=hrel;clear HT2 HB3 y4;obtain⟨wp,hwp⟩:=words.nm (wr);subst hwp;have hIn:S.cl.length≤1000000:=by have:=HFb.out.lc;have:=HN.out;omega
    by_cases hlt:i<S.cl.length
    ·exact absurd hlt (by rw [HC0.out.1];exact Nat.not_lt_zero _)
    ·obtain rfl:i=S.cl.length:=by omega
     have hscl:s.cl.length=S.cl.length:=by rw [HSm.out];simp [ScB.m]
     have hbld:Bld b0 b0 (textT (p2 s s.cl.length)) wp:=by rw [hscl];exact HT.out
     have xr:=(HB.out.block g (by have:=HG1.out;omega)).trans HX.out;have y5:=Jaa xr 5;have i1:¬((S.cl.length:Nat):Int)<(S.cl.length:Int):=by omega
     have hBw:b0≤wp.heap.size:=by rw [HG0.out];exact HB.out.size
     clear HT xr hscl;by_cases hpk:S.pk=[]
     ·have hs0:s.pk=[]:=by rw [HSm.out];exact hpk
      rw [←Jpp hs0] at hbld;have HSt:=hid (Jbn _ _ _ wp hbld hBw);have hl0:S.pk.length=0:=by rw [hpk];rfl
      rw [hl0] at y5;clear hs0 hpk hbld hBw;go_wp2_with fail
      refine HSt.out.mono ?_;rintro e w5 ⟨rfl,hb5⟩;have HF:Hid (Below w.heap.size w w5):=hid (HB1.out.trans ((HB.out.trans hb5).mono (by rw [HG0.out];exact HB1.out.size)));obtain⟨r,hr⟩:∃r:ByteArray,r=⟨(printM s).toArray⟩:=⟨_,rfl⟩
      rw [←hr];have HRr:=hid hr;clear hr hb5 HSt;go_wp2_with fail
      go_ret
      exact⟨⟨r,rfl,by rw [HRr.out,Ja9,HSm.out]⟩,HF.out⟩
     ·exact absurd HC0.out.2 hpk
end Go.Proofs.YtekekhgjobahaaaGreatDoor.scr
