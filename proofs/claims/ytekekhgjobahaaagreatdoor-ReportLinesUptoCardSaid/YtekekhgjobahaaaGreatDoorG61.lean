import Derived.Test.YtekekhgjobahaaaGreatDoorG50
import Derived.Laws.AppendOwnNone
import Derived.Test.YtekekhgjobahaaaGreatDoorG60
set_option maxRecDepth 100000
open Go.Proofs.Tryz
namespace Go.Proofs.YtekekhgjobahaaaGreatDoor.tal
open Go.RowKit words


def aR:Rc:=⟨0,0,7,⟨#[]⟩,0,0,0,⟨#[]⟩,9,0,0,0,0,⟨#[]⟩,[],false,1,1,1,none,0⟩
def bR:Rc:=⟨0,0,9,⟨#[]⟩,0,0,0,⟨#[]⟩,2,0,0,0,0,⟨#[]⟩,[],false,2,4,5,none,0⟩
def cR:Rc:=⟨0,0,9,⟨#[]⟩,0,0,0,⟨#[]⟩,0,0,0,0,0,⟨#[]⟩,[],false,2,4,5,none,0⟩
theorem do_a (s t m:Nat):DoT s t m (.agg #[.int .i64 aR.k,.string aR.p,.int .i64 aR.o,.int .i64 aR.n,.int .i64 aR.i,.string aR.g]) (.agg #[.int .i64 9,.int .i64 0,.int .i64 0,.int .i64 0,.int .i64 0,.string ⟨#[]⟩,.slice none 0 0,.bool false]):=fun w h=>by
 refine (do_close (h:=h) aR.p aR.o aR.n aR.i aR.g rfl (by unfold mpi.Fits;decide) rfl).mono ?_;rintro e w' ⟨rfl,hb⟩;exact⟨rfl,h.later hb,lru.Tn.of_below hb _⟩
theorem do_b (s t m:Nat):DoT s t m (.agg #[.int .i64 bR.k,.string bR.p,.int .i64 bR.o,.int .i64 bR.n,.int .i64 bR.i,.string bR.g]) (.agg #[.int .i64 2,.int .i64 0,.int .i64 0,.int .i64 0,.int .i64 0,.string ⟨#[]⟩,.slice none 0 0,.bool false]):=fun w h=>by
 refine (Jmw (h:=h) bR.p bR.o bR.n bR.i bR.g rfl (fun w' h'=>Jjo (h:=h') bR.i (fun w2 _=>Jjh 0 bR.i w2))).mono ?_;rintro e w' ⟨rfl,h1,h2⟩;exact⟨rfl,h1,h2⟩
theorem Jnj (w:World) (x y:Rc):Two (w.alloc (.cells #[.int .i64 x.cl,.int .i64 x.ix,.int .i64 x.k,.string x.p,.int .i64 x.o,.int .i64 x.n,.int .i64 x.i,.string x.g,.int .i64 x.e,.int .i64 x.rk,.int .i64 x.z,.int .i64 x.wh,.int .i64 x.id,.string x.x,.slice x.A x.N.length x.c,.bool x.fin,.int .i64 x.ca,.int .i64 x.ma,.int .i64 x.re,.int .i64 y.cl,.int .i64 y.ix,.int .i64 y.k,.string y.p,.int .i64 y.o,.int .i64 y.n,.int .i64 y.i,.string y.g,.int .i64 y.e,.int .i64 y.rk,.int .i64 y.z,.int .i64 y.wh,.int .i64 y.id,.string y.x,.slice y.A y.N.length y.c,.bool y.fin,.int .i64 y.ca,.int .i64 y.ma,.int .i64 y.re] 59)) w.heap.size x y:=by
 refine⟨_,heap_alloc_new w _,by show 38≤38;omega,?_⟩;rfl
theorem Jnd {w:World} {g:Nat} {x y:Rc} (h:Two w g x y):Recs w (some ⟨g,0,none⟩) [x,y]:=fun i r hr=>by
 match i,hr with
 |0,hr=>
  obtain rfl:=Option.some.inj hr;exact⟨g,0,rfl,h.lt,by rw [show 0+0*19=0 from rfl];exact h.at_.1⟩
 |1,hr=>
  obtain rfl:=Option.some.inj hr;exact⟨g,0,rfl,h.lt,by rw [show 0+1*19=19 from rfl];exact h.at_.2⟩
theorem Jne (g c:Nat) (w:World) (h:Two w g aR bR):Calls prog 23 #[.agg #[.slice none 0 0,.int .i64 0],.int .i64 1,.slice (some ⟨g,0,none⟩) 2 c] w fun e w'=>e= .returned (.int .i64 (-1))∧Below w.heap.size w w':=
 Jep true aR bR g 0 c 9 2 w h.at_.1 h.at_.2 ⟨by decide,by decide,by decide⟩ ⟨by decide,by decide,by decide⟩ rfl rfl do_a (by decide) do_b (by decide)
theorem Jnf (g c:Nat) (w:World) (h:Two w g aR cR):Calls prog 23 #[.agg #[.slice none 0 0,.int .i64 0],.int .i64 1,.slice (some ⟨g,0,none⟩) 2 c] w fun e w'=>e= .returned (.int .i64 1)∧Below w.heap.size w w':=
 Jep false aR cR g 0 c 9 2 w h.at_.1 h.at_.2 ⟨by decide,by decide,by decide⟩ ⟨by decide,by decide,by decide⟩ rfl rfl do_a (by decide) do_b (by decide)
theorem Jnc (g c:Nat) (w:World) (h:Two w g bR aR):Calls prog 55 #[.slice (some ⟨g,0,none⟩) 2 c] w fun e w'=>(∃g c,e= .returned (.slice (some ⟨g,0,none⟩) 2 c)∧w'.cell? ⟨g,17,none⟩=some (.int .i64 1)∧g<w'.heap.size)∧Below w.heap.size w w':=by
 refine (Jfc g 0 c bR aR w rfl rfl h.at_.1 h.at_.2).mono ?_;rintro e w' ⟨⟨g',c',rfl,hg,ht⟩,hb⟩;have e1:srt bR aR=(aR,bR):=by unfold srt;rw [if_pos (by decide)]
 rw [e1] at ht;refine⟨⟨g',c',rfl,?_,ht.lt⟩,hb⟩;have:=ht.at_.1 17 _ rfl;rwa [Nat.zero_add] at this

def RecsN (w:World) (L:List Rc):Prop:=∀r∈L,Txs w r.A r.N∧(r.A=none→r.N.length=0∧r.c=0)
theorem RecsN.later {w w':World} {L:List Rc} (h:RecsN w L) (hb:Below w.heap.size w w'):RecsN w' L:=fun r hr=>⟨(h r hr).1.later hb,(h r hr).2⟩
theorem Txs.lies {w:World} {A:Option Addr} {Q:List ByteArray} (h:Txs w A Q):Lies w A (Q.map Value.string):=fun j u hj=>by
 rw [List.getElem?_map] at hj;obtain⟨x,hx,rfl⟩:=Option.map_eq_some_iff.1 hj;exact h j x hx
theorem Txs.of_own {w:World} {B:Nat} {A:Option Addr} {n c:Nat} {Q:List ByteArray} (h:w.ownsRow B 9 1 (.slice A n c) Q.length (Q.map Value.string)):n=Q.length∧Txs w A Q:=by
 rcases h.2 with⟨hv,hn⟩ |⟨g,cap,cur,hv,_,hh,_,_,_,ht⟩
 ·injection hv with h1 h2
  obtain rfl:=List.eq_nil_of_length_eq_zero hn;exact⟨h2.trans hn.symm▸rfl,fun i x hx=>by simp at hx⟩
 ·injection hv with h1 h2
  subst h1 h2;refine⟨rfl,fun i x hx=>⟨g,0,rfl,lt_of_some hh,?_⟩⟩;rw [Jaa hh,Nat.zero_add];have hm:(Q.map Value.string)[i]?=some (.string x):=by rw [List.getElem?_map,hx];rfl
  rw [←ht,List.getElem?_take] at hm;split at hm
  ·rw [←Array.getElem?_toList];exact hm
  ·cases hm
theorem Jay {L:List Rc} {k:Nat} {r:Rc} (hr:L[k]?=some r):L.take (k+1)=L.take k++[r]:=by
 rw [List.take_add_one,hr];rfl
theorem Jac {w w':World} {B n:Nat} {v:Value} {xs:List Value} (h:w.ownsRow B 9 1 v n xs) (hb:Below w.heap.size w w'):w'.ownsRow B 9 1 v n xs:=by
 refine⟨h.1,?_⟩;rcases h.2 with h2 |⟨g,cap,cur,h1,h2,h3,h4⟩
 ·exact .inl h2
 ·exact .inr ⟨g,cap,cur,h1,h2,(hb.block _ (lt_of_some h3)).trans h3,h4⟩
end Go.Proofs.YtekekhgjobahaaaGreatDoor.tal

namespace Go.Proofs.YtekekhgjobahaaaGreatDoor.tal
open Go.ChangeShapes Go.WideShapes Go.RowKit words lru pln

section
variable {H:Type} {enc:TypeId×Value→H} {W:World} {base:Nat} {spare:Nat→Bool} {held:Bool}
theorem cellsErr:Tryz.prog.cellsOf 34=1:=by kernel_rfl
theorem cellsTx:Tryz.prog.cellsOf 27=1:=by kernel_rfl
theorem cellsOp:Tryz.prog.cellsOf 55=6:=by kernel_rfl
theorem cellsRes:Tryz.prog.cellsOf 57=8:=by kernel_rfl
theorem cellsRec:Tryz.prog.cellsOf 59=19:=by kernel_rfl
theorem Jkc {fuel:Nat} {v:Value} {x:DataW H×List MemPlace} (h:DataW.trod enc prog W base spare held fuel 27 [v]=some x):∃(A:Option Addr) (N:List ByteArray) (c:Nat),v= .slice A N.length c∧Txs W A N∧(A=none→N.length=0∧c=0)∧N.length≤9223372036854775807:=by
 rcases Deep.open_slice underlying27 h with⟨hc,_⟩ |⟨a,len,cap,_,_,_,_,hc,_⟩
 ·injection hc with hc
  exact⟨none,[],0,hc,fun i x hx=>by simp at hx,fun _=>⟨rfl,rfl⟩,by simp⟩
 ·injection hc with hc
  subst hc;obtain⟨N,rfl,h2,_,h3⟩:=Jkj h;exact⟨some a,N,cap,rfl,h2,fun h=>(by cases h),h3⟩
def resL (a:Rc):List Value:=[.int .i64 a.e,.int .i64 a.rk,.int .i64 a.z,.int .i64 a.wh,.int .i64 a.id,.string a.x,.slice a.A a.N.length a.c,.bool a.fin]
theorem Jis {α:Type} {l:List α} (h:l.length=6):∃c0 c1 c2 c3 c4 c5,l=[c0,c1,c2,c3,c4,c5]:=by
 match l,h with
 |[c0,c1,c2,c3,c4,c5],_=>exact⟨c0,c1,c2,c3,c4,c5,rfl⟩
theorem op_of {fuel:Nat} {cs:List Value} {x:DataW H×List MemPlace} (h:DataW.trod enc prog W base spare held fuel 55 cs=some x):∃(k:Int) (p:ByteArray) (o n i:Int) (g:ByteArray),cs=[.int .i64 k,.string p,.int .i64 o,.int .i64 n,.int .i64 i,.string g]:=by
 obtain⟨xs,n,_,_,hlen,hxl,hf⟩:=DataW.trod_struct underlying55 h;rw [cellsOp] at hlen;obtain⟨c0,c1,c2,c3,c4,c5,rfl⟩:=Jis hlen;obtain⟨x0,x1,x2,x3,x4,x5,rfl⟩:=Jis (l:=xs) hxl;have g0:DataW.trod enc prog W base spare held n 3 (([c0,c1,c2,c3,c4,c5].drop 0).take (Tryz.prog.cellsOf 3))=some x0:=hf 0 _ rfl;rw [cellsInt] at g0;have g1:DataW.trod enc prog W base spare held n 9 (([c0,c1,c2,c3,c4,c5].drop 1).take (Tryz.prog.cellsOf 9))=some x1:=hf 1 _ rfl;rw [cellsStr] at g1;have g2:DataW.trod enc prog W base spare held n 3 (([c0,c1,c2,c3,c4,c5].drop 2).take (Tryz.prog.cellsOf 3))=some x2:=hf 2 _ rfl;rw [cellsInt] at g2;have g3:DataW.trod enc prog W base spare held n 3 (([c0,c1,c2,c3,c4,c5].drop 3).take (Tryz.prog.cellsOf 3))=some x3:=hf 3 _ rfl;rw [cellsInt] at g3;have g4:DataW.trod enc prog W base spare held n 3 (([c0,c1,c2,c3,c4,c5].drop 4).take (Tryz.prog.cellsOf 3))=some x4:=hf 4 _ rfl;rw [cellsInt] at g4;have g5:DataW.trod enc prog W base spare held n 9 (([c0,c1,c2,c3,c4,c5].drop 5).take (Tryz.prog.cellsOf 9))=some x5:=hf 5 _ rfl;rw [cellsStr] at g5;obtain⟨v0,e0,_,_⟩:=DataW.trod_int underlying3 (show DataW.trod enc prog W base spare held n 3 [c0]=some x0 from g0);obtain rfl:=List.head_eq_of_cons_eq e0;obtain⟨v1,e1,_,_⟩:=DataW.trod_string underlying9 (show DataW.trod enc prog W base spare held n 9 [c1]=some x1 from g1);obtain rfl:=List.head_eq_of_cons_eq e1;obtain⟨v2,e2,_,_⟩:=DataW.trod_int underlying3 (show DataW.trod enc prog W base spare held n 3 [c2]=some x2 from g2);obtain rfl:=List.head_eq_of_cons_eq e2;obtain⟨v3,e3,_,_⟩:=DataW.trod_int underlying3 (show DataW.trod enc prog W base spare held n 3 [c3]=some x3 from g3);obtain rfl:=List.head_eq_of_cons_eq e3;obtain⟨v4,e4,_,_⟩:=DataW.trod_int underlying3 (show DataW.trod enc prog W base spare held n 3 [c4]=some x4 from g4);obtain rfl:=List.head_eq_of_cons_eq e4;obtain⟨v5,e5,_,_⟩:=DataW.trod_string underlying9 (show DataW.trod enc prog W base spare held n 9 [c5]=some x5 from g5);obtain rfl:=List.head_eq_of_cons_eq e5;exact⟨v0,v1,v2,v3,v4,v5,rfl⟩
theorem len8_of {α:Type} {l:List α} (h:l.length=8):∃c0 c1 c2 c3 c4 c5 c6 c7,l=[c0,c1,c2,c3,c4,c5,c6,c7]:=by
 match l,h with
 |[c0,c1,c2,c3,c4,c5,c6,c7],_=>exact⟨c0,c1,c2,c3,c4,c5,c6,c7,rfl⟩
theorem Jip {fuel:Nat} {cs:List Value} {x:DataW H×List MemPlace} (h:DataW.trod enc prog W base spare held fuel 57 cs=some x):∃a:Rc,cs=resL a∧Txs W a.A a.N∧(a.A=none→a.N.length=0∧a.c=0)∧a.N.length≤9223372036854775807:=by
 obtain⟨xs,n,_,_,hlen,hxl,hf⟩:=DataW.trod_struct underlying57 h;rw [cellsRes] at hlen;obtain⟨c0,c1,c2,c3,c4,c5,c6,c7,rfl⟩:=len8_of hlen;obtain⟨x0,x1,x2,x3,x4,x5,x6,x7,rfl⟩:=len8_of (l:=xs) hxl;have g0:DataW.trod enc prog W base spare held n 34 (([c0,c1,c2,c3,c4,c5,c6,c7].drop 0).take (Tryz.prog.cellsOf 34))=some x0:=hf 0 _ rfl;rw [cellsErr] at g0;have g1:DataW.trod enc prog W base spare held n 3 (([c0,c1,c2,c3,c4,c5,c6,c7].drop 1).take (Tryz.prog.cellsOf 3))=some x1:=hf 1 _ rfl;rw [cellsInt] at g1;have g2:DataW.trod enc prog W base spare held n 3 (([c0,c1,c2,c3,c4,c5,c6,c7].drop 2).take (Tryz.prog.cellsOf 3))=some x2:=hf 2 _ rfl;rw [cellsInt] at g2;have g3:DataW.trod enc prog W base spare held n 3 (([c0,c1,c2,c3,c4,c5,c6,c7].drop 3).take (Tryz.prog.cellsOf 3))=some x3:=hf 3 _ rfl;rw [cellsInt] at g3;have g4:DataW.trod enc prog W base spare held n 3 (([c0,c1,c2,c3,c4,c5,c6,c7].drop 4).take (Tryz.prog.cellsOf 3))=some x4:=hf 4 _ rfl;rw [cellsInt] at g4;have g5:DataW.trod enc prog W base spare held n 9 (([c0,c1,c2,c3,c4,c5,c6,c7].drop 5).take (Tryz.prog.cellsOf 9))=some x5:=hf 5 _ rfl;rw [cellsStr] at g5;have g6:DataW.trod enc prog W base spare held n 27 (([c0,c1,c2,c3,c4,c5,c6,c7].drop 6).take (Tryz.prog.cellsOf 27))=some x6:=hf 6 _ rfl;rw [cellsTx] at g6;have g7:DataW.trod enc prog W base spare held n 4 (([c0,c1,c2,c3,c4,c5,c6,c7].drop 7).take (Tryz.prog.cellsOf 4))=some x7:=hf 7 _ rfl;rw [cellsBool] at g7;obtain⟨v0,e0,_,_⟩:=DataW.trod_int underlying34 (show DataW.trod enc prog W base spare held n 34 [c0]=some x0 from g0);obtain rfl:=List.head_eq_of_cons_eq e0;obtain⟨v1,e1,_,_⟩:=DataW.trod_int underlying3 (show DataW.trod enc prog W base spare held n 3 [c1]=some x1 from g1);obtain rfl:=List.head_eq_of_cons_eq e1;obtain⟨v2,e2,_,_⟩:=DataW.trod_int underlying3 (show DataW.trod enc prog W base spare held n 3 [c2]=some x2 from g2);obtain rfl:=List.head_eq_of_cons_eq e2;obtain⟨v3,e3,_,_⟩:=DataW.trod_int underlying3 (show DataW.trod enc prog W base spare held n 3 [c3]=some x3 from g3);obtain rfl:=List.head_eq_of_cons_eq e3;obtain⟨v4,e4,_,_⟩:=DataW.trod_int underlying3 (show DataW.trod enc prog W base spare held n 3 [c4]=some x4 from g4);obtain rfl:=List.head_eq_of_cons_eq e4;obtain⟨v5,e5,_,_⟩:=DataW.trod_string underlying9 (show DataW.trod enc prog W base spare held n 9 [c5]=some x5 from g5);obtain rfl:=List.head_eq_of_cons_eq e5;obtain⟨A,N,c,rfl,t1,t2,t3⟩:=Jkc (show DataW.trod enc prog W base spare held n 27 [c6]=some x6 from g6);obtain⟨v7,e7,_⟩:=DataW.trod_bool underlying4 (show DataW.trod enc prog W base spare held n 4 [c7]=some x7 from g7);obtain rfl:=List.head_eq_of_cons_eq e7;exact⟨⟨0,0,0,⟨#[]⟩,0,0,0,⟨#[]⟩,v0,v1,v2,v3,v4,v5,N,v7,0,0,0,A,c⟩,rfl,t1,t2,t3⟩
theorem Jdq {α:Type} {l:List α} (h:l.length=19):∃c0 c1 c2 c3 c4 c5 c6 c7 c8 c9 c10 c11 c12 c13 c14 c15 c16 c17 c18,l=[c0,c1,c2,c3,c4,c5,c6,c7,c8,c9,c10,c11,c12,c13,c14,c15,c16,c17,c18]:=by
 match l,h with
 |[c0,c1,c2,c3,c4,c5,c6,c7,c8,c9,c10,c11,c12,c13,c14,c15,c16,c17,c18],_=>exact⟨c0,c1,c2,c3,c4,c5,c6,c7,c8,c9,c10,c11,c12,c13,c14,c15,c16,c17,c18,rfl⟩
theorem Jea {α:Type} {l:List α} (h:l.length=7):∃x0 x1 x2 x3 x4 x5 x6,l=[x0,x1,x2,x3,x4,x5,x6]:=by
 match l,h with
 |[x0,x1,x2,x3,x4,x5,x6],_=>exact⟨x0,x1,x2,x3,x4,x5,x6,rfl⟩
theorem Jje {fuel:Nat} {cs:List Value} {x:DataW H×List MemPlace} (h:DataW.trod enc prog W base spare held fuel 59 cs=some x):∃r:Rc,cs=r.cs∧Txs W r.A r.N∧(r.A=none→r.N.length=0∧r.c=0):=by
 obtain⟨xs,n,_,_,hlen,hxl,hf⟩:=DataW.trod_struct underlying59 h;rw [cellsRec] at hlen;obtain⟨c0,c1,c2,c3,c4,c5,c6,c7,c8,c9,c10,c11,c12,c13,c14,c15,c16,c17,c18,rfl⟩:=Jdq hlen;obtain⟨x0,x1,x2,x3,x4,x5,x6,rfl⟩:=Jea (l:=xs) hxl;have g0:DataW.trod enc prog W base spare held n 3 (([c0,c1,c2,c3,c4,c5,c6,c7,c8,c9,c10,c11,c12,c13,c14,c15,c16,c17,c18].drop 0).take (Tryz.prog.cellsOf 3))=some x0:=hf 0 _ rfl;rw [cellsInt] at g0;have g1:DataW.trod enc prog W base spare held n 3 (([c0,c1,c2,c3,c4,c5,c6,c7,c8,c9,c10,c11,c12,c13,c14,c15,c16,c17,c18].drop 1).take (Tryz.prog.cellsOf 3))=some x1:=hf 1 _ rfl;rw [cellsInt] at g1;have g2:DataW.trod enc prog W base spare held n 55 (([c0,c1,c2,c3,c4,c5,c6,c7,c8,c9,c10,c11,c12,c13,c14,c15,c16,c17,c18].drop 2).take (Tryz.prog.cellsOf 55))=some x2:=hf 2 _ rfl;rw [cellsOp] at g2;have g3:DataW.trod enc prog W base spare held n 57 (([c0,c1,c2,c3,c4,c5,c6,c7,c8,c9,c10,c11,c12,c13,c14,c15,c16,c17,c18].drop 8).take (Tryz.prog.cellsOf 57))=some x3:=hf 3 _ rfl;rw [cellsRes] at g3;have g4:DataW.trod enc prog W base spare held n 3 (([c0,c1,c2,c3,c4,c5,c6,c7,c8,c9,c10,c11,c12,c13,c14,c15,c16,c17,c18].drop 16).take (Tryz.prog.cellsOf 3))=some x4:=hf 4 _ rfl;rw [cellsInt] at g4;have g5:DataW.trod enc prog W base spare held n 3 (([c0,c1,c2,c3,c4,c5,c6,c7,c8,c9,c10,c11,c12,c13,c14,c15,c16,c17,c18].drop 17).take (Tryz.prog.cellsOf 3))=some x5:=hf 5 _ rfl;rw [cellsInt] at g5;have g6:DataW.trod enc prog W base spare held n 3 (([c0,c1,c2,c3,c4,c5,c6,c7,c8,c9,c10,c11,c12,c13,c14,c15,c16,c17,c18].drop 18).take (Tryz.prog.cellsOf 3))=some x6:=hf 6 _ rfl;rw [cellsInt] at g6;obtain⟨v0,e0,_,_⟩:=DataW.trod_int underlying3 (show DataW.trod enc prog W base spare held n 3 [c0]=some x0 from g0);obtain rfl:=List.head_eq_of_cons_eq e0;obtain⟨v1,e1,_,_⟩:=DataW.trod_int underlying3 (show DataW.trod enc prog W base spare held n 3 [c1]=some x1 from g1);obtain rfl:=List.head_eq_of_cons_eq e1;obtain⟨vk,vp,vo,vn,vi,vg,eo⟩:=op_of (show DataW.trod enc prog W base spare held n 55 [c2,c3,c4,c5,c6,c7]=some x2 from g2);simp only [List.cons.injEq] at eo;obtain⟨rfl,rfl,rfl,rfl,rfl,rfl,_⟩:=eo;obtain⟨a,ea,t1,t2,t3⟩:=Jip (show DataW.trod enc prog W base spare held n 57 [c8,c9,c10,c11,c12,c13,c14,c15]=some x3 from g3);unfold resL at ea;simp only [List.cons.injEq] at ea;obtain⟨rfl,rfl,rfl,rfl,rfl,rfl,rfl,rfl,_⟩:=ea;obtain⟨v4,e4,_,_⟩:=DataW.trod_int underlying3 (show DataW.trod enc prog W base spare held n 3 [c16]=some x4 from g4);obtain rfl:=List.head_eq_of_cons_eq e4;obtain⟨v5,e5,_,_⟩:=DataW.trod_int underlying3 (show DataW.trod enc prog W base spare held n 3 [c17]=some x5 from g5);obtain rfl:=List.head_eq_of_cons_eq e5;obtain⟨v6,e6,_,_⟩:=DataW.trod_int underlying3 (show DataW.trod enc prog W base spare held n 3 [c18]=some x6 from g6);obtain rfl:=List.head_eq_of_cons_eq e6;exact⟨⟨v0,v1,vk,vp,vo,vn,vi,vg,a.e,a.rk,a.z,a.wh,a.id,a.x,a.N,a.fin,v4,v5,v6,a.A,a.c⟩,rfl,t1,t2⟩
instance:Inhabited Rc:=⟨rec0⟩
theorem recs_of {fuel:Nat} {a0:Option Addr} {len cap:Nat} {x:DataW H×List MemPlace} (h:DataW.trod enc prog W base spare held fuel 35 [.slice a0 len cap]=some x):
  ∃L:List Rc,L.length=len∧Recs W a0 L∧RecsN W L∧len≤9223372036854775807:=by
 obtain⟨L,h1,h2,h3⟩:=row_of 19 Rc.cs (fun r=>Txs W r.A r.N∧(r.A=none→r.N.length=0∧r.c=0)) underlying35 cellsRec (fun y=>by rw [y.len];omega) (fun f cs x hv=>Jje hv) h;refine⟨L,h1,fun i y hy=>?_,fun y hy=>by obtain⟨i,hi⟩:=List.mem_iff_getElem?.1 hy;exact (h2 i y hi).2,h3⟩;obtain⟨⟨b,off,e1,e2,e3⟩,_⟩:=h2 i y hy;exact⟨b,off,e1,e2,e3⟩
end
end Go.Proofs.YtekekhgjobahaaaGreatDoor.tal
