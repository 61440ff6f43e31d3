import Derived.Test.YtekekhgjobahaaaGreatDoorG43
import Derived.CellFam
set_option maxHeartbeats 6400000
set_option maxRecDepth 100000
open Go.Lib (hid)
open Go.Proofs.Tryz
namespace Go.Proofs.YtekekhgjobahaaaGreatDoor.tal
open Go.RowKit words

theorem Jmr {B s t m:Nat} {w:World} (h:Sp B s t m none 0 [] 0 0 1 0 [] w):SpT s t m w:=⟨Nat.zero_le _,h.blk,tb_base h.tb (Nat.zero_le _)⟩
theorem Jep (b:Bool) (x y:Rc) (g0 o0 c0:Nat) (ex ey:Int) (w:World) (h1:w.rangeAt g0 o0 x.cs) (h2:w.rangeAt g0 (o0+19) y.cs) (hfx:Fine 0 x) (hfy:Fine x.ma y) (hbx:Bare x) (hby:Bare y)
  (hdx:∀s t m,DoT s t m (.agg #[.int .i64 x.k,.string x.p,.int .i64 x.o,.int .i64 x.n,.int .i64 x.i,.string x.g]) (.agg #[.int .i64 ex,.int .i64 0,.int .i64 0,.int .i64 0,.int .i64 0,.string ⟨#[]⟩,.slice none 0 0,.bool false])) (hsx:smB x (ans ex)=true)
  (hdy:∀s t m,DoT s t m (.agg #[.int .i64 y.k,.string y.p,.int .i64 y.o,.int .i64 y.n,.int .i64 y.i,.string y.g]) (.agg #[.int .i64 ey,.int .i64 0,.int .i64 0,.int .i64 0,.int .i64 0,.string ⟨#[]⟩,.slice none 0 0,.bool false])) (hsy:smB y (ans ey)=b):
  Calls prog 23 #[.agg #[.slice none 0 0,.int .i64 0],.int .i64 1,.slice (some ⟨g0,o0,none⟩) 2 c0] w fun e w'=>e= .returned (.int .i64 (if b then -1 else 1))∧Below w.heap.size w w':=by
 obtain⟨W1,hW1⟩:=words.nm (w.alloc (.cells #[.slice none 0 0,.int .i64 0] 38));have hb1:=words.b1 hW1;have hx1:W1.heap[w.heap.size]?=some (.cells #[.slice none 0 0,.int .i64 0] 38 (0,0)):=by rw [hW1];exact heap_alloc_new w _
 have s0:=Jaa hx1 0;have s1:=Jaa hx1 1;have HN:=hid (snew_any none 0 [] 0 1 1 W1 (by decide));have hlt:g0<w.heap.size:=World.block_lt_of_cell? w _ (h1 0 _ rfl);have HR:Hid (∀w',Below w.heap.size w w'→w'.rangeAt g0 o0 x.cs∧w'.rangeAt g0 (o0+19) y.cs):=hid fun w' hb=>⟨fun j v hv=>(hb.cell (p:=⟨g0,o0+j,none⟩) hlt).trans (h1 j v hv),fun j v hv=>(hb.cell (p:=⟨g0,o0+19+j,none⟩) hlt).trans (h2 j v hv)⟩
 have hsrt:srt x y=(x,y):=by unfold srt;rw [if_neg (by have:=hfy.m0;omega)]
 have HO:Hid (∀w',Below w.heap.size w w'→Calls prog 55 #[.slice (some ⟨g0,o0,none⟩) 2 c0] w' fun e w''=>(∃g c,e= .returned (.slice (some ⟨g,0,none⟩) 2 c)∧w'.heap.size≤g∧Two w'' g x y)∧Below w'.heap.size w' w''):=hid fun w' hb=>by
  have:=Jfc g0 o0 c0 x y w' hbx hby (HR.out w' hb).1 (HR.out w' hb).2;unfold OrdOut at this;rw [hsrt] at this;exact this
 have HF:Hid (∀(s t m g c:Nat) (w':World),Two w' g x y→SpT s t m w'→¬Bs s t m g→Calls prog 53 #[.iface 80 (.pointer (some ⟨s,0,none⟩)),.slice (some ⟨g,0,none⟩) 2 c] w' fun e w''=>e= .returned (.int .i64 (if b then -1 else 1))∧lru.Tn (Bs s t m) w' w''):=hid fun s t m g c w' k1 k2 k3=>Jil b s t m g c x y ex ey w' k1 k2 (hid k3) hfx hfy hbx hby (hdx s t m) hsx (hdy s t m) hsy;obtain⟨qq,hqq⟩:∃qq:Int,qq=(if b then -1 else 1):=⟨_,rfl⟩
 rw [←hqq] at HF ⊢;clear hqq;have HB1:=hid hb1;have HW1:=hid hW1;clear hb1 hx1 hW1 h1 h2 hlt hsrt hfx hfy hbx hby hdx hsx hdy hsy;go_enter func23,ntmps23
 go_upto_region 1 with fail
 rw [←HW1.out];clear HW1;go_wp2_with fail
 refine HN.out.mono ?_;rintro e w2 ⟨s,t,m,rfl,hsp,hb2⟩;have HB2:=hid (HB1.out.trans (hb2.mono HB1.out.size));have HSp:=hid hsp;have HO2:=hid (HO.out w2 HB2.out);clear hsp hb2 HN HO;go_wp2_with fail
 refine HO2.out.mono ?_;rintro e w3 ⟨⟨g,c,rfl,hg,htw⟩,hb3⟩;have hne:¬Bs s t m g:=fun hj=>by
  have hl:=HSp.out.lt;rcases hj with hj |hj |hj
  ·have:=hl.1;omega
  ·have:=hl.2.1;omega
  ·have:=hl.2.2;omega
 have HF3:=hid (HF.out s t m g c w3 htw (Jmr (HSp.out.later hb3)) hne);have HB3:=hid (HB2.out.trans (hb3.mono HB2.out.size));have HS3:=hid (HSp.out.later hb3);clear hg htw hb3 hne HO2 HF HSp;go_wp2_with fail
 refine HF3.out.mono ?_;rintro e w4 ⟨rfl,htn⟩;have HB4:Hid (Below w.heap.size w w4):=hid (((lru.Tn.of_below HB3.out (Bs s t m)).then htn (fun _ _ h=>h)).below (fun k hk=>Nat.le_trans HB1.out.size (HS3.out.bs hk)) (Nat.le_refl _));clear htn HF3 HS3;go_wp2_with fail
 go_ret
 exact⟨rfl,HB4.out⟩
def Recs (w:World) (A:Option Addr) (L:List Rc):Prop:=∀i r,L[i]?=some r→∃b off,A=some ⟨b,off,none⟩∧b<w.heap.size∧w.rangeAt b (off+i*19) r.cs
theorem Recs.later {w w':World} {A:Option Addr} {L:List Rc} (h:Recs w A L) (hb:Below w.heap.size w w'):Recs w' A L:=fun i r hr=>by
 obtain⟨b,off,h1,h2,h3⟩:=h i r hr;exact⟨b,off,h1,Nat.lt_of_lt_of_le h2 hb.size,fun j v hv=>(hb.cell (p:=⟨b,off+i*19+j,none⟩) h2).trans (h3 j v hv)⟩
def KptP (L:List Rc):Prop:=∀(i j:Nat) (x y:Rc),j<i→L[i]?=some x→L[j]?=some y→¬x.re<y.ca
theorem Jnk {ops:Array Oper} {rest:List Oper} {op:Oper} {a:Act} {w:World} {Q:Exit→Act→World→Prop} {x:Operand} {r:Rc} {b o:Nat} (ho:op.op= .load 59 x) (hw:Region.wanted op (yielded ops a.tmps)=true) (hx:a.eval x= .pointer (some ⟨b,o,none⟩)) (hc:w.rangeAt b o r.cs)
  (h:wpList prog ops Q rest (a.put op.dst (.agg #[.int .i64 r.cl,.int .i64 r.ix,.int .i64 r.k,.string r.p,.int .i64 r.o,.int .i64 r.n,.int .i64 r.i,.string r.g,.int .i64 r.e,.int .i64 r.rk,.int .i64 r.z,.int .i64 r.wh,.int .i64 r.id,.string r.x,.slice r.A r.N.length r.c,.bool r.fin,.int .i64 r.ca,.int .i64 r.ma,.int .i64 r.re])) w):wpList prog ops Q (op::rest) a w:=by
 rw [wpList,if_pos hw];exact .inl (wp_load_mid 59 x ho b o hx r.cs _ hc underlying59 rfl (by kernel_rfl) h)
theorem Jni {ops:Array Oper} {rest:List Oper} {op:Oper} {a:Act} {w:World} {Q:Exit→Act→World→Prop} {x y:Operand} {r q:Rc} {g:Nat} (ho:op.op= .store 59 x y) (hgd:op.guard=none) (hb:w.heap[g]?=some (.cells #[.int .i64 q.cl,.int .i64 q.ix,.int .i64 q.k,.string q.p,.int .i64 q.o,.int .i64 q.n,.int .i64 q.i,.string q.g,.int .i64 q.e,.int .i64 q.rk,.int .i64 q.z,.int .i64 q.wh,.int .i64 q.id,.string q.x,.slice q.A q.N.length q.c,.bool q.fin,.int .i64 q.ca,.int .i64 q.ma,.int .i64 q.re] 59 (0,0))) (hx:a.eval x= .pointer (some ⟨g,0,none⟩)) (hy:a.eval y= .agg #[.int .i64 r.cl,.int .i64 r.ix,.int .i64 r.k,.string r.p,.int .i64 r.o,.int .i64 r.n,.int .i64 r.i,.string r.g,.int .i64 r.e,.int .i64 r.rk,.int .i64 r.z,.int .i64 r.wh,.int .i64 r.id,.string r.x,.slice r.A r.N.length r.c,.bool r.fin,.int .i64 r.ca,.int .i64 r.ma,.int .i64 r.re])
  (h:wpList prog ops Q rest (a.put op.dst undef) (w.setCells g 0 r.cs)):wpList prog ops Q (op::rest) a w:=by
 refine wpList_store_mid hgd 59 x y ho g 0 r.cs.toArray hx hy (fun j hj=>?_) (by kernel_rfl) (all_oneCell_toArray r.one) h;have hj:j<19:=hj;refine⟨?_,Jab hb _⟩;rw [Jaa hb,Array.getElem?_eq_getElem (by show 0+j<19;omega)];rfl
theorem Jla {w:World} {g:Nat} {q r:Rc} (hb:w.heap[g]?=some (.cells #[.int .i64 q.cl,.int .i64 q.ix,.int .i64 q.k,.string q.p,.int .i64 q.o,.int .i64 q.n,.int .i64 q.i,.string q.g,.int .i64 q.e,.int .i64 q.rk,.int .i64 q.z,.int .i64 q.wh,.int .i64 q.id,.string q.x,.slice q.A q.N.length q.c,.bool q.fin,.int .i64 q.ca,.int .i64 q.ma,.int .i64 q.re] 59 (0,0))):(w.setCells g 0 r.cs).heap[g]?=some (.cells #[.int .i64 r.cl,.int .i64 r.ix,.int .i64 r.k,.string r.p,.int .i64 r.o,.int .i64 r.n,.int .i64 r.i,.string r.g,.int .i64 r.e,.int .i64 r.rk,.int .i64 r.z,.int .i64 r.wh,.int .i64 r.id,.string r.x,.slice r.A r.N.length r.c,.bool r.fin,.int .i64 r.ca,.int .i64 r.ma,.int .i64 r.re] 59 (0,0)):=by
 obtain⟨cur',h1,h2⟩:=heap_setCells r.cs 0 w g _ hb (by rw [r.len];show 0+19≤19;omega);rw [h1];have e:cur'=r.cs.toArray:=by
  apply Array.toList_inj.1;rw [h2,List.take_zero,List.nil_append,r.len,Nat.zero_add];rfl
 rw [e];rfl
theorem range_box {w:World} {g:Nat} {r:Rc} (hb:w.heap[g]?=some (.cells #[.int .i64 r.cl,.int .i64 r.ix,.int .i64 r.k,.string r.p,.int .i64 r.o,.int .i64 r.n,.int .i64 r.i,.string r.g,.int .i64 r.e,.int .i64 r.rk,.int .i64 r.z,.int .i64 r.wh,.int .i64 r.id,.string r.x,.slice r.A r.N.length r.c,.bool r.fin,.int .i64 r.ca,.int .i64 r.ma,.int .i64 r.re] 59 (0,0))):w.rangeAt g 0 r.cs:=fun j v hv=>by
 rw [Jaa hb,Nat.zero_add];show r.cs.toArray[j]?=some v;rw [List.getElem?_toArray];exact hv
def rec0:Rc:=⟨0,0,0,⟨#[]⟩,0,0,0,⟨#[]⟩,0,0,0,0,0,⟨#[]⟩,[],false,0,0,0,none,0⟩
structure InK (L:List Rc) (w:World) (k:Nat) (wr:World):Prop where
 box:∃q:Rc,wr.heap[w.heap.size]?=some (.cells #[.int .i64 q.cl,.int .i64 q.ix,.int .i64 q.k,.string q.p,.int .i64 q.o,.int .i64 q.n,.int .i64 q.i,.string q.g,.int .i64 q.e,.int .i64 q.rk,.int .i64 q.z,.int .i64 q.wh,.int .i64 q.id,.string q.x,.slice q.A q.N.length q.c,.bool q.fin,.int .i64 q.ca,.int .i64 q.ma,.int .i64 q.re] 59 (0,0))∧(∀j y,j<k→L[j]?=some y→y.ca≤q.ca)∧(0<k→∃j,j<k∧L[j]?=some q)
 kept:∀(i j:Nat) (x y:Rc),j<i→i<k→L[i]?=some x→L[j]?=some y→¬x.re<y.ca
 below:Below w.heap.size w wr
theorem below_cells {B g:Nat} {a:World} (hg:B≤g):∀(vs:List Value) (o:Nat) (w:World),Below B a w→Below B a (w.setCells g o vs)
 |[],_,_,h=>h
 |v::r,o,w,h=>by
  rw [World.setCells];exact below_cells hg r (o+1) _ (h.setCell (p:=⟨g,o,none⟩) hg v)
theorem InK.next {L:List Rc} {w w2:World} {k:Nat} {q r:Rc} (hw:w2.heap[w.heap.size]?=some (.cells #[.int .i64 q.cl,.int .i64 q.ix,.int .i64 q.k,.string q.p,.int .i64 q.o,.int .i64 q.n,.int .i64 q.i,.string q.g,.int .i64 q.e,.int .i64 q.rk,.int .i64 q.z,.int .i64 q.wh,.int .i64 q.id,.string q.x,.slice q.A q.N.length q.c,.bool q.fin,.int .i64 q.ca,.int .i64 q.ma,.int .i64 q.re] 59 (0,0))) (hb:Below w.heap.size w w2) (hm:∀j y,j<k→L[j]?=some y→y.ca≤q.ca) (hq:0<k→∃j,j<k∧L[j]?=some q) (hk:∀(i j:Nat) (x y:Rc),j<i→i<k→L[i]?=some x→L[j]?=some y→¬x.re<y.ca)
  (hr:L[k]?=some r) (hre:0<k→¬r.re<q.ca):
  (¬(0<k∧r.ca≤q.ca)→InK L w (k+1) (w2.setCells w.heap.size 0 r.cs))∧(0<k→r.ca≤q.ca→InK L w (k+1) w2):=by
 have hkept:∀(i j:Nat) (x y:Rc),j<i→i<k+1→L[i]?=some x→L[j]?=some y→¬x.re<y.ca:=fun i j x y h1 h2 h3 h4=>by
  rcases Nat.lt_or_ge i k with h |h
  ·exact hk i j x y h1 h h3 h4
  ·obtain rfl:i=k:=by omega
   rw [hr] at h3;obtain rfl:=Option.some.inj h3;have e1:=hm j y h1 h4;have e2:=hre (by omega);omega
 refine⟨fun hn=>⟨⟨r,Jla hw,fun j y hj hy=>?_,fun _=>⟨k,Nat.lt_succ_self _,hr⟩⟩,hkept,?_⟩,fun h0 hc=>⟨⟨q,hw,fun j y hj hy=>?_,fun _=>?_⟩,hkept,hb⟩⟩
 ·rcases Nat.lt_or_ge j k with h |h
  ·have:=hm j y h hy
   have h2:¬r.ca≤q.ca:=fun h3=>hn ⟨by omega,h3⟩;omega
  ·obtain rfl:j=k:=by omega
   rw [hr] at hy;obtain rfl:=Option.some.inj hy;exact Int.le_refl _
 ·exact below_cells (Nat.le_refl _) _ _ _ hb
 ·rcases Nat.lt_or_ge j k with h |h
  ·exact hm j y h hy
  ·obtain rfl:j=k:=by omega
   rw [hr] at hy;obtain rfl:=Option.some.inj hy;exact hc
 ·obtain⟨j,h1,h2⟩:=hq h0
  exact⟨j,by omega,h2⟩
theorem InK.done {L:List Rc} {w wr:World} {k:Nat} (h:InK L w k wr) (hk:L.length≤k):KptP L:=fun i j x y h1 h2 h3=>h.kept i j x y h1 (Nat.lt_of_lt_of_le (List.getElem?_eq_some_iff.1 h2).1 hk) h2 h3
def KeptO (L:List Rc) (w:World) (e:Ending) (w':World):Prop:=(∃b,e= .returned (.bool b)∧(b=true↔KptP L))∧Below w.heap.size w w'
end Go.Proofs.YtekekhgjobahaaaGreatDoor.tal
