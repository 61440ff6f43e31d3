import Derived.Test.YtekekhgjobahaaaGreatDoorG59
import Derived.Test.YtekekhgjobahaaaGreatDoorG61
import Derived.Test.YtekekhgjobahaaaGreatDoorG65
set_option maxRecDepth 100000
open Go.Proofs.Tryz hiding parts
namespace Go.Proofs.YtekekhgjobahaaaGreatDoor.rep
open Go.ChangeShapes Go.WideShapes Go.RowKit words cal
open tal (Rc Recs)

def Bk {H:Type} (d:DataW H):Prop:=Rows.uptoBulk d≤1048576
theorem Jm0 {H:Type} (d:DataW H):1≤Rows.uptoBulk d:=by
 cases d with
 |lit l=>cases l<;>simp [Rows.uptoBulk]
 |nil=>simp [Rows.uptoBulk]
 |ptr d=>simp [Rows.uptoBulk]
 |slice elems spare=>simp [Rows.uptoBulk]
 |agg parts=>simp [Rows.uptoBulk]
 |iface t d=>simp [Rows.uptoBulk]
 |map entries=>simp [Rows.uptoBulk]
 |held h=>simp [Rows.uptoBulk]
theorem Jh1 {H:Type} {d:DataW H} {l:List (DataW H)} (h:d∈l):Rows.uptoBulk d≤Rows.uptoBulkAll l:=by
 induction l with
 |nil=>cases h
 |cons x r ih=>
  simp only [Rows.uptoBulkAll];cases List.mem_cons.1 h with
  |inl e=>subst e;omega
  |inr e=>have:=ih e;omega
theorem Jm2 {H:Type} (l:List (DataW H)):l.length≤Rows.uptoBulkAll l:=by
 induction l with
 |nil=>simp [Rows.uptoBulkAll]
 |cons x r ih=>have:=Jm0 x;simp only [Rows.uptoBulkAll,List.length_cons];omega
section
variable {H:Type} {enc:TypeId×Value→H} {W:World} {base:Nat} {spare:Nat→Bool} {held:Bool}
theorem cellsStr:Tryz.prog.cellsOf 9=1:=by kernel_rfl
theorem cellsBool:Tryz.prog.cellsOf 4=1:=by kernel_rfl
theorem cellsInt:Tryz.prog.cellsOf 3=1:=by kernel_rfl
theorem cellsErr:Tryz.prog.cellsOf 34=1:=by kernel_rfl
theorem cellsTx:Tryz.prog.cellsOf 27=1:=by kernel_rfl
theorem cellsOp:Tryz.prog.cellsOf 55=6:=by kernel_rfl
theorem cellsRes:Tryz.prog.cellsOf 57=8:=by kernel_rfl
theorem cellsRec:Tryz.prog.cellsOf 59=19:=by kernel_rfl
def Txts (w:World) (B:Nat) (A:Option Addr) (Q:List ByteArray):Prop:=∀(i:Nat) x,Q[i]?=some x→(∃b off,A=some ⟨b,off,none⟩∧b<B∧w.cell? ⟨b,off+i,none⟩=some (.string x))∧x.size≤1048576
theorem add_plain (b o j:Nat):(⟨b,o,none⟩:Addr).add j=⟨b,o+j,none⟩:=lru.add_place b o j
theorem int_i64 {n:Int} (h:(Lit.int .i64 n).wf=true):I64 n:=by
 simp [Lit.wf,IntKind.min,IntKind.max,IntKind.signed,IntKind.bits] at h;unfold I64;omega
theorem Ja7 {t e:TypeId} (hu:Tryz.prog.underlying t=some (.slice e)) {fuel:Nat} {a0:Option Addr} {len cap:Nat} {x:DataW H×List MemPlace} (h:DataW.trod enc prog W base spare held fuel t [.slice a0 len cap]=some x) (hs:Bk x.1):
  len≤1048576∧len≤cap∧(a0=none→len=0∧cap=0):=by
 rcases DataW.trod_slice hu h with⟨hc,_⟩ |⟨a,l,c,elems,rest,n,_,hc,hx,_,hl,_,hlen,_⟩
 ·simp at hc
  obtain⟨rfl,rfl,rfl⟩:=hc;exact⟨by omega,Nat.le_refl _,fun _=>⟨rfl,rfl⟩⟩
 ·simp at hc
  obtain⟨rfl,rfl,rfl⟩:=hc;subst hx;unfold Bk at hs;simp only [Rows.uptoBulk] at hs;have hw:=Jm2 (elems.map (·.1));rw [List.length_map,hlen] at hw;exact⟨by omega,hl,fun h=>by cases h⟩
theorem Jeg {s:ByteArray} {x:DataW H×List MemPlace} (hx:x.1= .lit (.string s.data.toList)) (hs:Bk x.1):s.size≤1048576:=by
 unfold Bk at hs;rw [hx] at hs;simp only [Rows.uptoBulk,size_list] at hs;omega
theorem Jdo {t e:TypeId} (hu:Tryz.prog.underlying t=some (.slice e)) {fuel:Nat} {a:Addr} {len cap:Nat} {x:DataW H×List MemPlace} (h:DataW.trod enc prog W base spare held fuel t [.slice (some a) len cap]=some x) (hs:Bk x.1):
  ∃n,fuel=n+1∧∀i,i<len→∃cs d,W.cells? base (a.add (i*Tryz.prog.cellsOf e)) (Tryz.prog.cellsOf e)=some cs∧DataW.trod enc prog W base spare held n e cs=some d∧Bk d.1:=by
 rcases DataW.trod_slice hu h with⟨hc,_⟩ |⟨a',l,c,elems,rest,n,hfu,hc,hx,_,_,_,hlen,hel,_⟩
 ·simp at hc
 ·simp at hc
  obtain⟨rfl,rfl,rfl⟩:=hc;subst hx;refine⟨n,hfu,fun i hi=>?_⟩;have key:=hel i hi;rw [List.getElem?_eq_getElem (by omega)] at key;obtain⟨cs,h1,h2⟩:=Option.bind_eq_some_iff.1 key;refine⟨cs,_,h1,h2,?_⟩;unfold Bk at hs ⊢;simp only [Rows.uptoBulk] at hs;have:=Jh1 (List.mem_map.2 ⟨_,List.getElem_mem (l:=elems) (n:=i) (by omega),rfl⟩:(elems[i]'(by omega)).1∈elems.map (·.1));omega
theorem Jmi {fuel:Nat} {a0:Option Addr} {len cap:Nat} {x:DataW H×List MemPlace} (h:DataW.trod enc prog W base spare held fuel 27 [.slice a0 len cap]=some x) (hs:Bk x.1):
  ∃Q:List ByteArray,Q.length=len∧Txts W W.heap.size a0 Q:=by
 rcases a0 with _ |a
 ·obtain⟨rfl,_⟩:=(Ja7 underlying27 h hs).2.2 rfl
  exact⟨[],rfl,fun i x hx=>by simp at hx⟩
 ·obtain⟨n,_,hel⟩:=Jdo underlying27 h hs
  have each:∀i,i<len→∃y:ByteArray,y.size≤1048576∧W.cell? (a.add i)=some (.string y):=fun i hlt=>by
   obtain⟨cs,d,hcs,ht,hsd⟩:=hel i hlt;rw [cellsStr,Nat.mul_one] at hcs;obtain⟨s,rfl,hd,_⟩:=DataW.trod_string underlying9 ht;obtain⟨_,_,hat⟩:=World.cells?_some hcs;have h0:=hat 0 (by omega);have e:(a.add i).add 0=a.add i:=by simp [Addr.add]
   rw [e] at h0;exact⟨s,Jeg (by rw [hd]) hsd,h0⟩
  obtain⟨f,hfl⟩:=Deep.choose_lt each;refine⟨(List.range len).map f,by simp,fun i x hx=>?_⟩;have hlt:i<len:=by
   have:=(List.getElem?_eq_some_iff.1 hx).1;simpa using this
  have hxe:x=f i:=by
   rw [List.getElem?_map,List.getElem?_range hlt] at hx;simpa using hx.symm
  subst hxe;obtain⟨b,off,spot⟩:=a;have h0:=(hfl 0 (by omega)).2;have hspot:spot=none:=by simpa [Addr.add] using World.cell?_spot h0
  subst hspot;have hcell:=(hfl i hlt).2;rw [add_plain] at hcell;exact⟨⟨b,off,rfl,World.block_lt_of_cell? W _ hcell,hcell⟩,(hfl i hlt).1⟩
theorem Jk1 {t e:TypeId} (hu:Tryz.prog.underlying t=some (.slice e)) {fuel:Nat} {c:Value} {x:DataW H×List MemPlace} (h:DataW.trod enc prog W base spare held fuel t [c]=some x):∃a len cap,c= .slice a len cap:=by
 rcases DataW.trod_slice hu h with⟨hc,_⟩ |⟨a,l,c',_,_,_,_,hc,_⟩
 ·exact⟨_,_,_,by simpa using hc⟩
 ·exact⟨_,_,_,by simpa using hc⟩
theorem Jgf {α:Type} {l:List α} (h:l.length=8):∃a b c d e f g i,l=[a,b,c,d,e,f,g,i]:=by
 match l,h with
 |[a,b,c,d,e,f,g,i],_=>exact⟨a,b,c,d,e,f,g,i,rfl⟩
theorem Jip {fuel:Nat} {cs:List Value} {x:DataW H×List MemPlace} (h:DataW.trod enc prog W base spare held fuel 57 cs=some x) (hs:Bk x.1):
  ∃(e k z h d:Int) (t:ByteArray) (A:Option Addr) (N:List ByteArray) (c:Nat) (en:Bool),cs=[.int .i64 e,.int .i64 k,.int .i64 z,.int .i64 h,.int .i64 d,.string t,.slice A N.length c,.bool en]∧I64 e∧I64 k∧I64 z∧I64 h∧I64 d∧t.size≤1048576∧Txts W W.heap.size A N∧N.length≤1048576:=by
 obtain⟨xs,m,hfu,hxe,hlen,hxl,hf⟩:=DataW.trod_struct underlying57 h;rw [cellsRes] at hlen;obtain⟨c0,c1,c2,c3,c4,c5,c6,c7,rfl⟩:=Jgf hlen;obtain⟨x0,x1,x2,x3,x4,x5,x6,x7,rfl⟩:=Jgf hxl;have sz:∀(j:Nat) (t:TypeId) (d:DataW H),([34,3,3,3,3,9,27,4]:List TypeId)[j]?=some t→([x0.1,x1.1,x2.1,x3.1,x4.1,x5.1,x6.1,x7.1]:List (DataW H))[j]?=some d→Bk d:=fun j t d _ hd=>by
  unfold Bk at hs ⊢;rw [hxe] at hs;simp only [Rows.uptoBulk] at hs;have:=Jh1 (List.mem_of_getElem? hd);simp only [List.map_cons,List.map_nil] at hs;omega
 have g0:DataW.trod enc prog W base spare held m 34 (([c0,c1,c2,c3,c4,c5,c6,c7].drop 0).take (Tryz.prog.cellsOf 34))=some x0:=hf 0 _ rfl;rw [cellsErr] at g0;have g1:DataW.trod enc prog W base spare held m 3 (([c0,c1,c2,c3,c4,c5,c6,c7].drop 1).take (Tryz.prog.cellsOf 3))=some x1:=hf 1 _ rfl;rw [cellsInt] at g1;have g2:DataW.trod enc prog W base spare held m 3 (([c0,c1,c2,c3,c4,c5,c6,c7].drop 2).take (Tryz.prog.cellsOf 3))=some x2:=hf 2 _ rfl;rw [cellsInt] at g2;have g3:DataW.trod enc prog W base spare held m 3 (([c0,c1,c2,c3,c4,c5,c6,c7].drop 3).take (Tryz.prog.cellsOf 3))=some x3:=hf 3 _ rfl;rw [cellsInt] at g3;have g4:DataW.trod enc prog W base spare held m 3 (([c0,c1,c2,c3,c4,c5,c6,c7].drop 4).take (Tryz.prog.cellsOf 3))=some x4:=hf 4 _ rfl;rw [cellsInt] at g4;have g5:DataW.trod enc prog W base spare held m 9 (([c0,c1,c2,c3,c4,c5,c6,c7].drop 5).take (Tryz.prog.cellsOf 9))=some x5:=hf 5 _ rfl;rw [cellsStr] at g5;have g6:DataW.trod enc prog W base spare held m 27 (([c0,c1,c2,c3,c4,c5,c6,c7].drop 6).take (Tryz.prog.cellsOf 27))=some x6:=hf 6 _ rfl;rw [cellsTx] at g6;have g7:DataW.trod enc prog W base spare held m 4 (([c0,c1,c2,c3,c4,c5,c6,c7].drop 7).take (Tryz.prog.cellsOf 4))=some x7:=hf 7 _ rfl;rw [cellsBool] at g7;obtain⟨v0,e0,_,b0⟩:=DataW.trod_int underlying34 (show DataW.trod enc prog W base spare held m 34 [c0]=some x0 from g0);have w0:=int_i64 b0;injection e0 with e0 _;subst e0;obtain⟨v1,e1,_,b1⟩:=DataW.trod_int underlying3 (show DataW.trod enc prog W base spare held m 3 [c1]=some x1 from g1);have w1:=int_i64 b1;injection e1 with e1 _;subst e1;obtain⟨v2,e2,_,b2⟩:=DataW.trod_int underlying3 (show DataW.trod enc prog W base spare held m 3 [c2]=some x2 from g2);have w2:=int_i64 b2;injection e2 with e2 _;subst e2;obtain⟨v3,e3,_,b3⟩:=DataW.trod_int underlying3 (show DataW.trod enc prog W base spare held m 3 [c3]=some x3 from g3);have w3:=int_i64 b3;injection e3 with e3 _;subst e3;obtain⟨v4,e4,_,b4⟩:=DataW.trod_int underlying3 (show DataW.trod enc prog W base spare held m 3 [c4]=some x4 from g4);have w4:=int_i64 b4;injection e4 with e4 _;subst e4;obtain⟨v5,e5,f5,_⟩:=DataW.trod_string underlying9 (show DataW.trod enc prog W base spare held m 9 [c5]=some x5 from g5);have w5:v5.size≤1048576:=Jeg (by rw [f5]) (sz 5 _ _ rfl rfl);injection e5 with e5 _;subst e5;obtain⟨a6,l6,k6,rfl⟩:=Jk1 underlying27 (show DataW.trod enc prog W base spare held m 27 [c6]=some x6 from g6);obtain⟨Q6,rfl,hT6⟩:=Jmi (show DataW.trod enc prog W base spare held m 27 [.slice a6 l6 k6]=some x6 from g6) (sz 6 _ _ rfl rfl);obtain⟨n6,_,_⟩:=Ja7 underlying27 (show DataW.trod enc prog W base spare held m 27 [.slice a6 Q6.length k6]=some x6 from g6) (sz 6 _ _ rfl rfl);obtain⟨v7,e7,_⟩:=DataW.trod_bool underlying4 (show DataW.trod enc prog W base spare held m 4 [c7]=some x7 from g7);injection e7 with e7 _;subst e7;exact⟨v0,v1,v2,v3,v4,v5,a6,Q6,k6,v7,rfl,w0,w1,w2,w3,w4,w5,hT6,by omega⟩
theorem Jdq {α:Type} {l:List α} (h:l.length=19):∃c0 c1 c2 c3 c4 c5 c6 c7 c8 c9 c10 c11 c12 c13 c14 c15 c16 c17 c18,l=[c0,c1,c2,c3,c4,c5,c6,c7,c8,c9,c10,c11,c12,c13,c14,c15,c16,c17,c18]:=by
 match l,h with
 |[c0,c1,c2,c3,c4,c5,c6,c7,c8,c9,c10,c11,c12,c13,c14,c15,c16,c17,c18],_=>exact⟨c0,c1,c2,c3,c4,c5,c6,c7,c8,c9,c10,c11,c12,c13,c14,c15,c16,c17,c18,rfl⟩
theorem Jea {α:Type} {l:List α} (h:l.length=7):∃x0 x1 x2 x3 x4 x5 x6,l=[x0,x1,x2,x3,x4,x5,x6]:=by
 match l,h with
 |[x0,x1,x2,x3,x4,x5,x6],_=>exact⟨x0,x1,x2,x3,x4,x5,x6,rfl⟩
theorem Jje {fuel:Nat} {cs:List Value} {x:DataW H×List MemPlace} (h:DataW.trod enc prog W base spare held fuel 59 cs=some x) (hs:Bk x.1):∃r:Rc,cs=r.cs∧Sl W r.A r.N∧RcIn r:=by
 obtain⟨xs,n,_,hxe,hlen,hxl,hf⟩:=DataW.trod_struct underlying59 h;rw [cellsRec] at hlen;obtain⟨c0,c1,c2,c3,c4,c5,c6,c7,c8,c9,c10,c11,c12,c13,c14,c15,c16,c17,c18,rfl⟩:=Jdq hlen;obtain⟨x0,x1,x2,x3,x4,x5,x6,rfl⟩:=Jea (l:=xs) hxl;have sz:Bk x3.1:=by
  unfold Bk at hs ⊢;rw [hxe] at hs;simp only [Rows.uptoBulk,List.map_cons,List.map_nil,Rows.uptoBulkAll] at hs;omega
 have g0:DataW.trod enc prog W base spare held n 3 (([c0,c1,c2,c3,c4,c5,c6,c7,c8,c9,c10,c11,c12,c13,c14,c15,c16,c17,c18].drop 0).take (Tryz.prog.cellsOf 3))=some x0:=hf 0 _ rfl;rw [cellsInt] at g0;have g1:DataW.trod enc prog W base spare held n 3 (([c0,c1,c2,c3,c4,c5,c6,c7,c8,c9,c10,c11,c12,c13,c14,c15,c16,c17,c18].drop 1).take (Tryz.prog.cellsOf 3))=some x1:=hf 1 _ rfl;rw [cellsInt] at g1;have g2:DataW.trod enc prog W base spare held n 55 (([c0,c1,c2,c3,c4,c5,c6,c7,c8,c9,c10,c11,c12,c13,c14,c15,c16,c17,c18].drop 2).take (Tryz.prog.cellsOf 55))=some x2:=hf 2 _ rfl;rw [cellsOp] at g2;have g3:DataW.trod enc prog W base spare held n 57 (([c0,c1,c2,c3,c4,c5,c6,c7,c8,c9,c10,c11,c12,c13,c14,c15,c16,c17,c18].drop 8).take (Tryz.prog.cellsOf 57))=some x3:=hf 3 _ rfl;rw [cellsRes] at g3;have g4:DataW.trod enc prog W base spare held n 3 (([c0,c1,c2,c3,c4,c5,c6,c7,c8,c9,c10,c11,c12,c13,c14,c15,c16,c17,c18].drop 16).take (Tryz.prog.cellsOf 3))=some x4:=hf 4 _ rfl;rw [cellsInt] at g4;have g5:DataW.trod enc prog W base spare held n 3 (([c0,c1,c2,c3,c4,c5,c6,c7,c8,c9,c10,c11,c12,c13,c14,c15,c16,c17,c18].drop 17).take (Tryz.prog.cellsOf 3))=some x5:=hf 5 _ rfl;rw [cellsInt] at g5;have g6:DataW.trod enc prog W base spare held n 3 (([c0,c1,c2,c3,c4,c5,c6,c7,c8,c9,c10,c11,c12,c13,c14,c15,c16,c17,c18].drop 18).take (Tryz.prog.cellsOf 3))=some x6:=hf 6 _ rfl;rw [cellsInt] at g6;obtain⟨v0,e0,_,w0⟩:=DataW.trod_int underlying3 (show DataW.trod enc prog W base spare held n 3 [c0]=some x0 from g0);obtain rfl:=List.head_eq_of_cons_eq e0;obtain⟨v1,e1,_,w1⟩:=DataW.trod_int underlying3 (show DataW.trod enc prog W base spare held n 3 [c1]=some x1 from g1);obtain rfl:=List.head_eq_of_cons_eq e1;obtain⟨v4,e4,_,w4⟩:=DataW.trod_int underlying3 (show DataW.trod enc prog W base spare held n 3 [c16]=some x4 from g4);obtain rfl:=List.head_eq_of_cons_eq e4;obtain⟨v5,e5,_,w5⟩:=DataW.trod_int underlying3 (show DataW.trod enc prog W base spare held n 3 [c17]=some x5 from g5);obtain rfl:=List.head_eq_of_cons_eq e5;obtain⟨v6,e6,_,w6⟩:=DataW.trod_int underlying3 (show DataW.trod enc prog W base spare held n 3 [c18]=some x6 from g6);obtain rfl:=List.head_eq_of_cons_eq e6;obtain⟨vk,vp,vo,vn,vi,vg,eo⟩:=tal.op_of (show DataW.trod enc prog W base spare held n 55 [c2,c3,c4,c5,c6,c7]=some x2 from g2);simp only [List.cons.injEq] at eo;obtain⟨rfl,rfl,rfl,rfl,rfl,rfl,_⟩:=eo;obtain⟨e,k,z,hh,d,tx,A,N,c,en,ea,i1,i2,i3,i4,i5,i6,i7,i8⟩:=Jip (show DataW.trod enc prog W base spare held n 57 [c8,c9,c10,c11,c12,c13,c14,c15]=some x3 from g3) sz;simp only [List.cons.injEq] at ea;obtain⟨rfl,rfl,rfl,rfl,rfl,rfl,rfl,rfl,_⟩:=ea;exact⟨⟨v0,v1,vk,vp,vo,vn,vi,vg,e,k,z,hh,d,tx,N,en,v4,v5,v6,A,c⟩,rfl,fun i y hy=>(i7 i y hy).1,⟨int_i64 w0,int_i64 w1,int_i64 w4,int_i64 w5,int_i64 w6,i1,i2,i3,i4,i5,i6,i8,fun y hy=>by
   obtain⟨i,hi⟩:=List.mem_iff_getElem?.1 hy;exact (i7 i y hi).2⟩⟩
instance:Inhabited Rc:=⟨tal.rec0⟩
theorem recs_of {fuel:Nat} {a0:Option Addr} {len cap:Nat} {x:DataW H×List MemPlace} (h:DataW.trod enc prog W base spare held fuel 35 [.slice a0 len cap]=some x) (hs:Bk x.1):
  ∃L:List Rc,L.length=len∧Recs W a0 L∧(∀r∈L,Sl W r.A r.N)∧(∀r∈L,RcIn r)∧len≤1048576:=by
 have hlen:=(Ja7 underlying35 h hs).1;rcases a0 with _ |a
 ·obtain⟨rfl,_⟩:=(Ja7 underlying35 h hs).2.2 rfl
  exact⟨[],rfl,fun i x hx=>by simp at hx,fun r hr=>by simp at hr,fun r hr=>by simp at hr,hlen⟩
 ·obtain⟨n,_,hel⟩:=Jdo underlying35 h hs
  have each:∀i,i<len→∃r:Rc,(Sl W r.A r.N∧RcIn r)∧∀(k:Nat) u,r.cs[k]?=some u→W.cell? ((a.add (i*19)).add k)=some u:=fun i hlt=>by
   obtain⟨cs,d,hcs,ht,hsd⟩:=hel i hlt;rw [cellsRec] at hcs;obtain⟨r,rfl,q1,q2⟩:=Jje ht hsd;obtain⟨_,_,hat⟩:=World.cells?_some hcs;refine⟨r,⟨q1,q2⟩,fun k u hu=>?_⟩;have hk:k<19:=(List.getElem?_eq_some_iff.1 hu).1;have h0:=hat k (by omega);rw [hu] at h0;exact h0
  obtain⟨f,hfl⟩:=Deep.choose_lt each;refine⟨(List.range len).map f,by simp,fun i r hr=>?_,fun r hr=>?_,fun r hr=>?_,hlen⟩
  ·have hlt:i<len:=by
    have:=(List.getElem?_eq_some_iff.1 hr).1;simpa using this
   have hre:r=f i:=by
    rw [List.getElem?_map,List.getElem?_range hlt] at hr;simpa using hr.symm
   subst hre;obtain⟨b,off,spot⟩:=a;have hz:=(hfl 0 (by omega)).2 0 _ rfl;have hspot:spot=none:=by simpa [Addr.add] using World.cell?_spot hz
   subst hspot;have h0:=(hfl i hlt).2 0 _ rfl;refine⟨b,off,rfl,?_,fun k u hu=>?_⟩
   ·rw [add_plain,add_plain] at h0
    exact World.block_lt_of_cell? W _ h0
   ·have:=(hfl i hlt).2 k u hu
    rwa [add_plain,add_plain] at this
  ·obtain⟨i,hi,rfl⟩:=List.mem_map.1 hr
   exact (hfl i (List.mem_range.1 hi)).1.1
  ·obtain⟨i,hi,rfl⟩:=List.mem_map.1 hr
   exact (hfl i (List.mem_range.1 hi)).1.2
theorem cellsPair:Tryz.prog.cellsOf 53=2:=by kernel_rfl
theorem Jll {α:Type} {l:List α} (h:l.length=2):∃a b,l=[a,b]:=by
 match l,h with
 |[a,b],_=>exact⟨a,b,rfl⟩
theorem pair_of {fuel:Nat} {cs:List Value} {z:DataW H×List MemPlace} (h:DataW.trod enc prog W base spare held fuel 53 cs=some z):
  ∃x y:Int,cs=[.int .i64 x,.int .i64 y]∧I64 x∧I64 y:=by
 obtain⟨xs,n,_,_,hlen,hxl,hf⟩:=DataW.trod_array underlying53 h;rw [cellsPair] at hlen;obtain⟨c0,c1,rfl⟩:=Jll hlen;obtain⟨x0,x1,rfl⟩:=Jll hxl;have g0:=hf 0 (by omega);have g1:=hf 1 (by omega);rw [cellsInt] at g0 g1;obtain⟨X,e0,_,w0⟩:=DataW.trod_int underlying3 (show DataW.trod enc prog W base spare held n 3 [c0]=some x0 from g0);obtain⟨Y,e1,_,w1⟩:=DataW.trod_int underlying3 (show DataW.trod enc prog W base spare held n 3 [c1]=some x1 from g1);exact⟨X,Y,by simp_all,int_i64 w0,int_i64 w1⟩
end
end Go.Proofs.YtekekhgjobahaaaGreatDoor.rep
