import Derived.Test.YtkjpgheealfedaaGreatDoorJK
set_option maxHeartbeats 12800000
set_option maxRecDepth 100000
open Go.Lib (hid)
open Go.Proofs.Tryz
namespace Go.Proofs.YtkjpgheealfedaaGreatDoor.seen
open Go.RowKit words ext name tre stk

def spotV (l i:Int):Value:= .agg #[.int .i64 l,.int .i64 i]
theorem Jkb (A:Option Addr) (n c k j:Nat) (ad:Int) (L:List (Nat×Int)) (x:Nat×Int) (E:List Ent) (e:Ent) (w:World) (h:stk.Rows w w.heap.size A L) (hn:L.length=n) (hx:L[k]?=some x) (hb:Brn w w.heap.size x.1 E) (he:E[j]?=some e):
  Calls prog 64 #[stkV A n c ad,spotV (k:Int) (j:Int)] w fun en w'=>en= .returned (.int .i64 e.x.K)∧Below w.heap.size w w':=by
 obtain⟨Wa,hWa⟩:=words.nm (w.alloc (.cells #[.slice A n c,.int .i64 ad] 29));obtain⟨W1,hW1⟩:=words.nm (Wa.alloc (.cells #[.int .i64 (k:Int),.int .i64 (j:Int)] 33));have hz:Wa.heap.size=w.heap.size+1:=by rw [hWa];simp
 have hba:=words.b1 hWa;have hb1:Below w.heap.size w W1:=by rw [hW1];exact hba.alloc hba.size _
 have hs1:W1.heap[w.heap.size]?=some (.cells #[.slice A n c,.int .i64 ad] 29 (0,0)):=by
  rw [hW1];refine (Below.heap_alloc Wa _ _ (by omega)).trans ?_;rw [hWa];exact heap_alloc_new w _
 have hp1:W1.heap[w.heap.size+1]?=some (.cells #[.int .i64 (k:Int),.int .i64 (j:Int)] 33 (0,0)):=by rw [hW1,←hz];exact heap_alloc_new Wa _
 have s0:W1.cell? ⟨w.heap.size,0,none⟩=some (.slice A n c):=Jaa hs1 0;have s1:W1.cell? ⟨w.heap.size,1,none⟩=some (.int .i64 ad):=Jaa hs1 1;have p0:W1.cell? ⟨w.heap.size+1,0,none⟩=some (.int .i64 (k:Int)):=Jaa hp1 0;have hr:=Jda A n c k ad L x W1 ((h.keep hb1).more hb1.size) hn hx;unfold stkV at hr ⊢;unfold spotV;have HR:=hid hr;rw [hWa] at hW1;have HW1:=hid hW1;have HB1:=hid hb1;have HP1:=hid hp1;have HBr:=hid (hb.later hb1);have HE:=hid he;clear h hx hb he hba hb1 hs1 hp1 hW1 hWa hz hr;go_enter func64,ntmps64
 go_upto_region 1 with fail
 rw [←HW1.out];go_wp2_with fail
 refine HR.out.mono ?_;rintro en w2 ⟨rfl,hb2⟩;have p1:w2.cell? ⟨w.heap.size+1,1,none⟩=some (.int .i64 (j:Int)):=Jaa ((hb2.block _ (lt_of_some HP1.out)).trans HP1.out) 1;have HK:=hid (Jh5 x.1 j E e w2 (HBr.out.later hb2) HE.out);have HB2:=hid (HB1.out.trans (hb2.mono HB1.out.size));clear hb2 HR s0 s1 p0;go_wp2_with fail
 refine HK.out.mono ?_;rintro en w3 ⟨rfl,hb3⟩;have HB3:=hid (HB2.out.trans (hb3.mono HB2.out.size));clear hb3 HK HB2 p1;go_wp2_with fail
 go_ret
 exact⟨rfl,HB3.out⟩

structure StkM (w:World) (A:Option Addr) (L:List (Nat×Int)) (Es:List (List Ent)):Prop where
 rows:stk.Rows w w.heap.size A L
 es:Es.length=L.length
 brs:∀(k:Nat) (x:Nat×Int) (E:List Ent),L[k]?=some x→Es[k]?=some E→Brn w w.heap.size x.1 E
theorem StkM.later {w w':World} {A:Option Addr} {L:List (Nat×Int)} {Es:List (List Ent)} (h:StkM w A L Es) (hb:Below w.heap.size w w'):StkM w' A L Es:=
 ⟨(h.rows.keep hb).more hb.size,h.es,fun k x E h1 h2=>(h.brs k x E h1 h2).later hb⟩
def Plc (w:World) (B:Nat) (A:Option Addr) (P:List (Nat×Nat)):Prop:=
 ∀(i:Nat) (x:Nat×Nat),P[i]?=some x→∃b off,A=some ⟨b,off,none⟩∧b<B∧w.cell? ⟨b,off+i*2,none⟩=some (.int .i64 (x.1:Int))∧w.cell? ⟨b,off+i*2+1,none⟩=some (.int .i64 (x.2:Int))
theorem Plc.keep {w w':World} {B:Nat} {A:Option Addr} {P:List (Nat×Nat)} (h:Plc w B A P) (hb:Below B w w'):Plc w' B A P:=fun i x hx=>by
 obtain⟨b,off,h1,h2,h3,h4⟩:=h i x hx;exact⟨b,off,h1,h2,(hb.cell (p:=⟨b,off+i*2,none⟩) h2).trans h3,(hb.cell (p:=⟨b,off+i*2+1,none⟩) h2).trans h4⟩
theorem Plc.more {w:World} {B B':Nat} {A:Option Addr} {P:List (Nat×Nat)} (h:Plc w B A P) (hB:B≤B'):Plc w B' A P:=fun i x hx=>by
 obtain⟨b,off,h1,h2,h3⟩:=h i x hx;exact⟨b,off,h1,Nat.lt_of_lt_of_le h2 hB,h3⟩
def entAt (Es:List (List Ent)) (x:Nat×Nat):Option Ent:=(Es[x.1]?).bind (·[x.2]?)
def oneN (Es:List (List Ent)):List (Nat×Nat)→Nat
 |[]=>0
 |x::P=>match entAt Es x with
  |none=>0
  |some e=>if e.x.K=2 then (if e.x.O=true then 1 else oneN Es P+1) else 0
theorem Jna {Es:List (List Ent)} {P:List (Nat×Nat)} {k:Nat} {x:Nat×Nat} {e:Ent} (hx:P[k]?=some x) (he:entAt Es x=some e):oneN Es (P.drop k)=if e.x.K=2 then (if e.x.O=true then 1 else oneN Es (P.drop (k+1))+1) else 0:=by
 obtain⟨hk,rfl⟩:=List.getElem?_eq_some_iff.1 hx;rw [List.drop_eq_getElem_cons hk,oneN,he]
theorem Jdh (Es:List (List Ent)):∀P:List (Nat×Nat),oneN Es P≤P.length
 |[]=>Nat.le_refl _
 |x::P=>by
  have:=Jdh Es P;rw [oneN,List.length_cons];split
  ·omega
  ·split
   ·split<;>omega
   ·omega
theorem infoSpot:(Tryz.prog.info? 33).map (fun i=>(i.zero,i.size,i.bytes))=some (some (.agg #[.int .i64 0,.int .i64 0]),2,16):=by kernel_rfl
theorem Jio (A:Option Addr) (n cap i:Nat) (h:i≤cap) (wx:World):
  (Instr.slice 35 (.slice A n cap) none (some (.int .i64 (i:Int))) none).run prog wx= .ok (.slice A i cap) wx:=by
 obtain⟨i0,hi,hz0,hz1,hz2⟩:=info_parts infoSpot;have he:Tryz.prog.elem 35=33:=by kernel_rfl
 rw [run_slice_h (P:=prog) wx 35 A n cap (by kernel_rfl) .i64 (i:Int) (by omega) (by omega),he];simp [sizeOf,typeInfo,hi,hz1,Result.andThen,sliced];rcases A with _ |A
 ·intro _;rfl
 ·simp [Addr.add]
theorem Jga (A:Option Addr) (c:Nat) (ad:Int) (L:List (Nat×Int)) (Es:List (List Ent)) (Ap:Option Addr) (cp:Nat) (P:List (Nat×Nat)) (w:World) (h:StkM w A L Es) (hp:Plc w w.heap.size Ap P) (hcp:P.length≤cp) (hlp:P.length≤1000) (hin:∀x∈P,∃e,entAt Es x=some e):
  Calls prog 53 #[stkV A L.length c ad,.slice Ap P.length cp] w fun e w'=>e= .returned (.slice Ap (oneN Es P) cp)∧Below w.heap.size w w':=by
 obtain⟨W1,hW1⟩:=words.nm (w.alloc (.cells #[.slice A L.length c,.int .i64 ad] 29));have hb1:=words.b1 hW1;have hs1:W1.heap[w.heap.size]?=some (.cells #[.slice A L.length c,.int .i64 ad] 29 (0,0)):=by rw [hW1];exact heap_alloc_new w _
 have HK:=hid hs1;have HS:=hid (h.later hb1);have HP:=hid ((hp.keep hb1).more hb1.size);have HIn:=hid hin;have HW1:=hid hW1;have HB1:=hid hb1;clear hW1 hb1 hs1 h hp hin;unfold stkV;go_enter func53,ntmps53
 go_upto_region 1 with fail
 rw [←HW1.out];clear HW1;go_wp2_with fail
 go_loopw [9] (fun v wr=>∃k:Nat,v= .int .i64 (k:Int)∧k≤P.length∧Hid (oneN Es P=k+oneN Es (P.drop k))∧Hid (Below W1.heap.size W1 wr)) (fun v _=>P.length - (intOf v).toNat)
 case atStart=>exact⟨0,rfl,Nat.zero_le _,hid (by rw [List.drop_zero,Nat.zero_add]),hid (Below.refl _ _)⟩
 case round=>
  obtain⟨k,rfl,hk,HO,HB⟩:=hrel;by_cases hlt:k<P.length
  ·obtain⟨⟨lv,nd⟩,hx⟩:∃x,P[k]?=some x:=⟨_,List.getElem?_eq_getElem hlt⟩
   obtain⟨e,he⟩:=HIn.out _ (List.mem_of_getElem? hx);have hst:=Jna hx he;obtain⟨E,hE,hEe⟩:∃E,Es[lv]?=some E∧E[nd]?=some e:=by
    unfold entAt at he;obtain⟨E,h1,h2⟩:=Option.bind_eq_some_iff.1 he;exact⟨E,h1,h2⟩
   have hSr:=HS.out.later HB.out;obtain⟨y,hy⟩:∃y,L[lv]?=some y:=⟨_,List.getElem?_eq_getElem (by rw [←hSr.es];exact (List.getElem?_eq_some_iff.1 hE).1)⟩
   obtain⟨b,off,hAp,hb,q0,q1⟩:=(HP.out.keep HB.out) k _ hx;subst hAp;have i0:(0:Int)≤(k:Int):=by omega
   have i1:(k:Int)<(P.length:Int):=by omega
   have hkr:=(HB.out.block _ (lt_of_some HK.out)).trans HK.out;obtain⟨W2,hW2⟩:=words.nm (wr.alloc (.cells #[.int .i64 (lv:Int),.int .i64 (nd:Int)] 33));have hb2:Below wr.heap.size wr W2:=words.b1 hW2;have hk2:W2.heap[wr.heap.size]?=some (.cells #[.int .i64 (lv:Int),.int .i64 (nd:Int)] 33 (0,0)):=by rw [hW2];exact heap_alloc_new wr _
   have hs2:=(hb2.block _ (lt_of_some hkr)).trans hkr;have hS2:=hSr.later hb2;have HKd:=hid (Jkb A L.length c lv nd ad L y E e W2 hS2.rows rfl hy (hS2.brs lv y E hy hE) hEe);have HSS:Hid (∀w':World,Below W2.heap.size W2 w'→(w'.cell? ⟨w.heap.size,0,none⟩=some (.slice A L.length c)∧w'.cell? ⟨w.heap.size,1,none⟩=some (.int .i64 ad)∧w'.cell? ⟨wr.heap.size,0,none⟩=some (.int .i64 (lv:Int))∧w'.cell? ⟨wr.heap.size,1,none⟩=some (.int .i64 (nd:Int))∧Below W2.heap.size W2 w')):=hid fun w' hb'=>by
    have e1:=(hb'.block _ (lt_of_some hs2)).trans hs2;have e2:=(hb'.block _ (lt_of_some hk2)).trans hk2;exact⟨Jaa e1 0,Jaa e1 1,Jaa e2 0,Jaa e2 1,hb'⟩
   have HAT:=hid (fun (w':World) (hb':Below W2.heap.size W2 w')=>show Calls prog 67 #[.agg #[.slice A L.length c,.int .i64 ad],.int .i64 (lv:Int)] w' fun e w''=>e= .returned (.pointer (some ⟨y.1,0,none⟩))∧Below W2.heap.size W2 w'' from (Jda A L.length c lv ad L y w' (hS2.later hb').rows rfl hy).mono fun e w'' ⟨h1,h2⟩=>⟨h1,hb'.trans (h2.mono hb'.size)⟩);have HOP:=hid (fun (w':World) (hb':Below W2.heap.size W2 w')=>show Calls prog 93 #[.pointer (some ⟨y.1,0,none⟩),.int .i64 (nd:Int)] w' fun en w''=>en= .returned (.bool e.x.O)∧Below W2.heap.size W2 w'' from (Jpc y.1 nd E e w' ((hS2.later hb').brs lv y E hy hE) hEe).mono fun e w'' ⟨h1,h2⟩=>⟨h1,hb'.trans (h2.mono hb'.size)⟩);have HBx:=hid (HB.out.trans (hb2.mono HB.out.size));have HW2:=hid hW2;have hs0:=Jio (some ⟨b,off,none⟩) P.length cp k (by omega);have hs1:=Jio (some ⟨b,off,none⟩) P.length cp (k+1) (by omega);have HSt:=hid hst;clear hx he hst hE hEe hSr hy hb hkr hb2 hk2 hs2 hS2 hW2;go_upto_region 4 with fail
   rw [←HW2.out];clear q0 q1 HW2;have hS0:=HSS.out _ (Below.refl _ _);obtain⟨s0,s1,p0,p1,-⟩:=hS0;rcases Decidable.em (e.x.K=2) with hk2 |hk2
   ·have g2:(e.x.K !=2)=false:=by simp [hk2]
    have HSt2:Hid (oneN Es (P.drop k)=if e.x.O=true then 1 else oneN Es (P.drop (k+1))+1):=hid (by rw [HSt.out,if_pos hk2]);clear hk2 HSt;unfold stkV spotV at HKd;go_wp2_with fail
    refine HKd.out.mono ?_;rintro en w3 ⟨rfl,hb3⟩;have HB60:=hid hb3.drew;clear hb3 s0 s1 p0 p1 HKd;go_upto_region 6 with fail
    go_region_held3 (fun w'=>(w'.cell? ⟨w.heap.size,0,none⟩=some (.slice A L.length c)∧w'.cell? ⟨w.heap.size,1,none⟩=some (.int .i64 ad)∧w'.cell? ⟨wr.heap.size,0,none⟩=some (.int .i64 (lv:Int))∧w'.cell? ⟨wr.heap.size,1,none⟩=some (.int .i64 (nd:Int))∧Below W2.heap.size W2 w'))
     (first |exact HSS.out _ (by assumption) |exact HSS.out _ HB60.out)
     (first |((go_at_call 67;with_reducible refine (HAT.out _ (by first |assumption |exact HB60.out)).mono ?_);rintro en w' ⟨rfl,hb'⟩) |((go_at_call 93;with_reducible refine (HOP.out _ (by first |assumption |exact HB60.out)).mono ?_);rintro en w' ⟨rfl,hb'⟩))
    all_goals
     have HF:=hid (HBx.out.trans (hb'.mono HBx.out.size));clear hb';rcases ho:e.x.O with _ |_
     ·have HO2:Hid (oneN Es P=k+1+oneN Es (P.drop (k+1))):=hid (by rw [HO.out,HSt2.out,ho,if_neg (by decide)];omega)
      clear ho HSt2 HO;go_wp2_with fail
      go_roundw
      case rel=>exact⟨k+1,by go_num,by omega,HO2,HF⟩
      case measure=>simp [intOf];omega
     ·have HO2:Hid (oneN Es P=k+1):=hid (by rw [HO.out,HSt2.out,ho,if_pos rfl])
      have HG:=hid (HB1.out.trans (HF.out.mono HB1.out.size));have gk:IntKind.i64.wrap ((k:Int)+1)=((k+1:Nat):Int):=by rw [IntWalk.i64_in _ (by omega)];omega
      clear ho HSt2 HO HF;go_wp2_with fail
      go_ret
      exact⟨by rw [HO2.out];rfl,HG.out⟩
   ·have g2:(e.x.K !=2)=true:=by simp [hk2]
    have HSt2:Hid (oneN Es P=k):=hid (by rw [HO.out,HSt.out,if_neg hk2,Nat.add_zero]);clear hk2 HSt HO;unfold stkV spotV at HKd;go_wp2_with fail
    refine HKd.out.mono ?_;rintro en w3 ⟨rfl,hb3⟩;have HF:=hid (HB1.out.trans ((HBx.out.trans (hb3.mono HBx.out.size)).mono HB1.out.size));clear hb3 s0 s1 p0 p1 HKd;go_wp2_with fail
    go_ret
    exact⟨by rw [HSt2.out];rfl,HF.out⟩
  ·obtain rfl:k=P.length:=by omega
   have HSt2:Hid (oneN Es P=P.length):=hid (by rw [HO.out,List.drop_length,oneN,Nat.add_zero]);have HF:=hid (HB1.out.trans (HB.out.mono HB1.out.size));clear HO HB;go_wp2_with fail
   go_ret
   exact⟨by rw [HSt2.out];rfl,HF.out⟩

def spC (x:Nat×Nat):List Value:=[.int .i64 (x.1:Int),.int .i64 (x.2:Int)]
theorem Jf9:∀{P:List (Nat×Nat)} {k:Nat} {x:Nat×Nat},P[k]?=some x→∀j,j<2→(P.flatMap spC)[k*2+j]?=(spC x)[j]?
 |[],k,x,hk,_,_=>by simp at hk
 |y::L,k,x,hk,j,hj=>by
  rw [List.flatMap_cons];rcases k with _ |k
  ·obtain rfl:y=x:=by simpa using hk
   rw [List.getElem?_append_left (by simp [spC];omega),Nat.zero_mul,Nat.zero_add]
  ·rw [List.getElem?_append_right (by simp [spC];omega),←Jf9 (P:=L) (k:=k) (by simpa using hk) j hj]
   congr 1;simp [spC];omega
theorem Jh0 {w:World} {B n c:Nat} {A:Option Addr} {P:List (Nat×Nat)} (h:w.ownsRow B 33 2 (.slice A n c) n (P.flatMap spC)):Plc w w.heap.size A P:=fun i x hx=>by
 obtain⟨b,_,e1,_,e2,_,e3⟩:=own_cell h (j:=i*2+0) (u:= .int .i64 (x.1:Int)) (by rw [Jf9 hx 0 (by omega)];rfl);obtain⟨b',_,e4,_,_,_,e5⟩:=own_cell h (j:=i*2+1) (u:= .int .i64 (x.2:Int)) (by rw [Jf9 hx 1 (by omega)];rfl);rw [e1] at e4;injection e4 with e4;injection e4 with e4;subst e4;exact⟨b,0,e1,e2,by rw [Nat.zero_add];exact e3,by rw [Nat.zero_add];exact e5⟩
theorem Plc.take {w:World} {B:Nat} {A:Option Addr} {P:List (Nat×Nat)} (h:Plc w B A P) (n:Nat):Plc w B A (P.take n):=fun i x hx=>h i x (by
  rw [List.getElem?_take] at hx;split at hx
  ·exact hx
  ·cases hx)
def roots (n:Nat):List (Nat×Nat):=(List.range n).map fun k=>(k,0)
theorem Jgs (n:Nat):roots (n+1)=roots n++[(n,0)]:=by unfold roots;rw [List.range_succ,List.map_append];rfl
theorem Jal (n:Nat):(roots n).length=n:=by unfold roots;rw [List.length_map,List.length_range]
def rootP (Es:List (List Ent)):List (Nat×Nat):=(roots Es.length).take (oneN Es (roots Es.length))
theorem Ja5 (Es:List (List Ent)):(rootP Es).length=oneN Es (roots Es.length):=by
 unfold rootP;rw [List.length_take];exact Nat.min_eq_left (Jdh _ _)
def PlcOut (P:List (Nat×Nat)) (w:World) (e:Ending) (w':World):Prop:=∃A c,e= .returned (.slice A P.length c)∧Plc w' w'.heap.size A P∧P.length≤c∧(∀b off,A=some ⟨b,off,none⟩→w.heap.size≤b)∧Below w.heap.size w w'
theorem Jar (w:World) (cs:Array Value) (E:TypeId) (i:Nat):(w.alloc (.cells cs E)).cell? ((⟨w.heap.size,0,none⟩:Addr).add i)=cs[i]?:=by
 rw [Jas,Nat.zero_add];exact Jaa (heap_alloc_new w _) i
theorem ownL {w w':World} {B size n:Nat} {E:TypeId} {v:Value} {xs:List Value} (h:w.ownsRow B E size v n xs) (hb:Below w.heap.size w w'):w'.ownsRow B E size v n xs:=by
 refine⟨h.1,?_⟩;rcases h.2 with h0 |⟨g,cap,cur,h1,h2,h3,h4⟩
 ·exact .inl h0
 ·exact .inr ⟨g,cap,cur,h1,h2,(hb.block g (lt_of_some h3)).trans h3,h4⟩

def Lk (e:Ent) (s:ByteArray) (o:Option Nat):Prop:=(∃(i id:Nat),e.x.N[i]?=some s∧e.ids[i]?=some id∧o=some id)∨(o=none∧∀j:Nat,e.x.N[j]?≠some s)
def EntsOf (Es:List (List Ent)) (s:ByteArray):List (Nat×Nat)→List (Nat×Nat)→Prop
 |[],Q=>Q=[]
 |x::P,Q=>∃e o Q',entAt Es x=some e∧Lk e s o∧Q=(o.map fun i=>(x.1,i)).toList++Q'∧EntsOf Es s P Q'
theorem EntsOf.snoc {Es:List (List Ent)} {s:ByteArray} {x:Nat×Nat} {e:Ent} {o:Option Nat} (he:entAt Es x=some e) (hl:Lk e s o):∀{P Q:List (Nat×Nat)},EntsOf Es s P Q→EntsOf Es s (P++[x]) (Q++(o.map fun i=>(x.1,i)).toList)
 |[],Q,h=>by
  have h':Q=[]:=h;subst h';exact⟨e,o,[],he,hl,by simp,rfl⟩
 |y::P,Q,⟨e',o',Q',h1,h2,h3,h4⟩=>⟨e',o',_,h1,h2,by rw [h3,List.append_assoc],EntsOf.snoc he hl h4⟩
theorem Jde (A:Option Addr) (c:Nat) (ad:Int) (L:List (Nat×Int)) (Es:List (List Ent)) (Ap:Option Addr) (cp:Nat) (P:List (Nat×Nat)) (s:ByteArray) (w:World) (h:StkM w A L Es) (hp:Plc w w.heap.size Ap P) (hlp:P.length≤1000) (hin:∀x∈P,∃e,entAt Es x=some e) (hok:∀E∈Es,∀e∈E,Asc e.x.N∧e.ids.length=e.x.N.length):
  Calls prog 63 #[stkV A L.length c ad,.slice Ap P.length cp,.string s] w fun e w'=>∃Q,EntsOf Es s P Q∧Q.length≤P.length∧PlcOut Q w e w':=by
 obtain⟨W1,hW1⟩:=words.nm (w.alloc (.cells #[.slice A L.length c,.int .i64 ad] 29));have hb1:=words.b1 hW1;have hs1:W1.heap[w.heap.size]?=some (.cells #[.slice A L.length c,.int .i64 ad] 29 (0,0)):=by rw [hW1];exact heap_alloc_new w _
 have HK:=hid hs1;have HS:=hid (h.later hb1);have HP:=hid ((hp.keep hb1).more hb1.size);have HIn:=hid hin;have HOk:=hid hok;have HW1:=hid hW1;have HB1:=hid hb1;clear hW1 hb1 hs1 h hp hin hok;obtain⟨iS,hiS,zS0,zS1,zS2⟩:=info_parts infoSpot;unfold stkV;go_enter func63,ntmps63
 go_upto_region 1 with fail
 rw [←HW1.out];clear HW1;go_wp2_with fail
 go_loopw [15,7] (fun v v7 wr=>∃(k:Nat) (Q:List (Nat×Nat)),v= .int .i64 (k:Int)∧k≤P.length∧Q.length≤k∧Hid (EntsOf Es s (P.take k) Q)∧Hid (wr.ownsRow W1.heap.size 33 2 v7 Q.length (Q.flatMap spC))∧Hid (Below W1.heap.size W1 wr)) (fun v _ _=>P.length - (intOf v).toNat)
 case atStart=>exact⟨0,[],rfl,Nat.zero_le _,Nat.le_refl _,hid rfl,hid (World.ownsRow_nil _ _ _ _),hid (Below.refl _ _)⟩
 case round=>
  obtain⟨k,Q,rfl,hk,hq,HE,HO,HB⟩:=hrel;obtain⟨Ar,cr,rfl,hcr,_⟩:=own_facts HO.out;by_cases hlt:k<P.length
  ·obtain⟨⟨lv,nd⟩,hx⟩:∃x,P[k]?=some x:=⟨_,List.getElem?_eq_getElem hlt⟩
   obtain⟨e,he⟩:=HIn.out _ (List.mem_of_getElem? hx);obtain⟨E,hE,hEe⟩:∃E,Es[lv]?=some E∧E[nd]?=some e:=by
    have h0:=he;unfold entAt at h0;obtain⟨E,h1,h2⟩:=Option.bind_eq_some_iff.1 h0;exact⟨E,h1,h2⟩
   have hoke:=HOk.out E (List.mem_of_getElem? hE) e (List.mem_of_getElem? hEe);have hSr:=HS.out.later HB.out;obtain⟨y,hy⟩:∃y,L[lv]?=some y:=⟨_,List.getElem?_eq_getElem (by rw [←hSr.es];exact (List.getElem?_eq_some_iff.1 hE).1)⟩
   obtain⟨b,off,hAp,hb,q0,q1⟩:=(HP.out.keep HB.out) k _ hx;subst hAp;have i0:(0:Int)≤(k:Int):=by omega
   have i1:(k:Int)<(P.length:Int):=by omega
   have hkr:=(HB.out.block _ (lt_of_some HK.out)).trans HK.out;obtain⟨W2,hW2⟩:=words.nm (wr.alloc (.cells #[.int .i64 (lv:Int),.int .i64 (nd:Int)] 33));have hb2:Below wr.heap.size wr W2:=words.b1 hW2;have hk2:W2.heap[wr.heap.size]?=some (.cells #[.int .i64 (lv:Int),.int .i64 (nd:Int)] 33 (0,0)):=by rw [hW2];exact heap_alloc_new wr _
   have hs2:=(hb2.block _ (lt_of_some hkr)).trans hkr;have hS2:=hSr.later hb2;have HAT:=hid (show Calls prog 67 #[.agg #[.slice A L.length c,.int .i64 ad],.int .i64 (lv:Int)] W2 fun e w''=>e= .returned (.pointer (some ⟨y.1,0,none⟩))∧Below W2.heap.size W2 w'' from Jda A L.length c lv ad L y W2 hS2.rows rfl hy);have HBy:=hid (hS2.brs lv y E hy hE);have HOx:=hid (ownL HO.out hb2);have HBx:=hid (HB.out.trans (hb2.mono HB.out.size));have HK2:=hid hk2;have HW2:=hid hW2;have HEe:=hid hEe;have HOe:=hid hoke;have HNx:Hid (∀o,Lk e s o→EntsOf Es s (P.take (k+1)) (Q++(o.map fun i=>(lv,i)).toList)):=hid fun o ho=>by
    obtain⟨hkl,hxx⟩:=List.getElem?_eq_some_iff.1 hx;rw [List.take_succ_eq_append_getElem hkl,hxx];exact EntsOf.snoc (x:=(lv,nd)) he ho HE.out
   have s0:=Jaa hs2 0;have s1:=Jaa hs2 1;have p0:=Jaa hk2 0;clear hx he hE hEe hoke hSr hy hb hkr hb2 hk2 hs2 hS2 hW2 HO HB HE;go_upto_region 5 with fail
   rw [←HW2.out];clear q0 q1 HW2;go_wp2_with fail
   refine HAT.out.mono ?_;rintro en w3 ⟨rfl,hb3⟩;have hk3:=(hb3.block _ (lt_of_some HK2.out)).trans HK2.out;have p1:=Jaa hk3 1;have HLk:=hid (Jit y.1 nd E e s w3 (HBy.out.later hb3) HEe.out HOe.out.1 HOe.out.2);have HOy:=hid (ownL HOx.out hb3);have HBy3:=hid (HBx.out.trans (hb3.mono HBx.out.size));have HK3:=hid hk3;clear hb3 hk3 s0 s1 p0 HAT HOx HBx HBy HK2;go_wp2_with fail
   refine HLk.out.mono ?_;rintro en w4 ⟨hen,hb4⟩;have hk4:=(hb4.block _ (lt_of_some HK3.out)).trans HK3.out;have p0:=Jaa hk4 0;have HO4:=hid (ownL HOy.out hb4);have HB4:=hid (HBy3.out.trans (hb4.mono HBy3.out.size));clear hb4 hk4 p1 HLk HOy HBy3 HK3;rcases hen with⟨i,id,h1,h2,rfl⟩ |⟨rfl,hno⟩
   ·have HE1:=hid (HNx.out (some id) (.inl ⟨i,id,h1,h2,rfl⟩))
    obtain⟨Wc,hWc⟩:=words.nm (w4.alloc (.cells #[.int .i64 (lv:Int),.int .i64 (id:Int)] 33));have hbc:Below w4.heap.size w4 Wc:=words.b1 hWc;have HNc:Hid (∀(i:Nat) (u:Value),([.int .i64 (lv:Int),.int .i64 (id:Int)]:List Value)[i]?=some u→Wc.cell? ((⟨w4.heap.size,0,none⟩:Addr).add i)=some u):=hid fun i u hi=>by rw [hWc,Jar];simpa using hi
    have HOc:=hid (ownL HO4.out hbc);have HBc:=hid (HB4.out.trans (hbc.mono HB4.out.size));have HWc:=hid hWc.symm;clear hWc hbc HO4 HB4 h1 h2;go_wp2_with (at_builtin;rw [HWc.out];refine wpList_append_own _ rfl (.tmp 34) (.tmp 39) 35 rfl W1.heap.size 33 iS _ 2 16 underlying35 hiS zS0 zS1 zS2 rfl (by omega) (.slice Ar Q.length cr) Q.length (Q.flatMap spC) rfl HOc.out ⟨w4.heap.size,0,none⟩ 1 1 [.int .i64 (lv:Int),.int .i64 (id:Int)] rfl rfl HNc.out (by simp [Value.oneCell']) (by simp only [maxLen];omega) (by omega) HBc.out.size ?_;intro v3' wq hownq hgrowq hnilq)
    have HBq:=hid (Jad HBc.out HOc.out hgrowq (Nat.le_refl _) (Nat.le_refl _));have HOq:Hid (wq.ownsRow W1.heap.size 33 2 v3' (Q++[(lv,id)]).length ((Q++[(lv,id)]).flatMap spC)):=hid (by rw [List.length_append,List.flatMap_append];exact hownq);clear hownq hgrowq hnilq;go_roundw
    case rel=>exact⟨k+1,Q++[(lv,id)],by go_num,by omega,by rw [List.length_append];exact Nat.succ_le_succ hq,HE1,HOq,HBq⟩
    case measure=>simp [intOf];omega
   ·have HE1:Hid (EntsOf Es s (P.take (k+1)) Q):=hid (by have:=HNx.out none (.inr ⟨rfl,hno⟩);simpa using this)
    clear hno;go_wp2_with fail
    go_roundw
    case rel=>exact⟨k+1,Q,by go_num,by omega,by omega,HE1,HO4,HB4⟩
    case measure=>simp [intOf];omega
  ·obtain rfl:k=P.length:=by omega
   have HF:Hid (∃Q',EntsOf Es s P Q'∧Q'.length≤P.length∧PlcOut Q' w (.returned (.slice Ar Q.length cr)) wr):=hid ⟨Q,by have:=HE.out;rwa [List.take_length] at this,hq,Ar,cr,rfl,Jh0 HO.out,hcr,fun b off e=>Nat.le_trans HB1.out.size (World.ownsRow.lt HO.out b (by rw [e];rfl)).1,HB1.out.trans (HB.out.mono HB1.out.size)⟩;clear HE HO HB;go_wp2_with fail
   go_ret
   exact HF.out

theorem over4 {w:World} {g:Nat} {T:TypeId} {c0 c1 c2 c3 u0 u1 u2 u3:Value} (h:w.heap[g]?=some (.cells #[c0,c1,c2,c3] T (0,0))):
  ((((w.setCell ⟨g,0,none⟩ u0).setCell ⟨g,1,none⟩ u1).setCell ⟨g,2,none⟩ u2).setCell ⟨g,3,none⟩ u3).heap[g]?=some (.cells #[u0,u1,u2,u3] T (0,0)):=by
 simp [World.setCell,Array.getElem?_modify,h]
def foundV (k l i:Int) (A:Option Addr) (n c:Nat):Value:= .agg #[.int .i64 k,.int .i64 l,.int .i64 i,.slice A n c]
def LookOut (Es:List (List Ent)) (Q:List (Nat×Nat)) (w:World) (en:Ending) (w':World):Prop:=
 (((∀x e,Q[0]?=some x→entAt Es x=some e→e.x.K≠1∧e.x.K≠2∧e.x.K≠3)∧en= .returned (.tuple #[foundV 0 0 0 none 0 0,.bool false]))∨
  (∃x e,Q[0]?=some x∧entAt Es x=some e∧(e.x.K=1∨e.x.K=3)∧en= .returned (.tuple #[foundV e.x.K (x.1:Int) (x.2:Int) none 0 0,.bool true]))∨
  (∃x e A c,Q[0]?=some x∧entAt Es x=some e∧e.x.K=2∧en= .returned (.tuple #[foundV e.x.K (x.1:Int) (x.2:Int) A (Q.take (oneN Es Q)).length c,.bool true])∧Plc w' w'.heap.size A (Q.take (oneN Es Q))∧(Q.take (oneN Es Q)).length≤c))∧Below w.heap.size w w'
theorem EntsOf.all {Es:List (List Ent)} {s:ByteArray} (hids:∀E∈Es,∀e∈E,∀(i:Nat) id,e.ids[i]?=some id→∃e',E[id]?=some e'):∀{P Q:List (Nat×Nat)},EntsOf Es s P Q→∀x∈Q,∃e,entAt Es x=some e
 |[],Q,h,x,hx=>by
  have h':Q=[]:=h;subst h';cases hx
 |y::P,Q,⟨e',o',Q',h1,h2,h3,h4⟩,x,hx=>by
  rw [h3] at hx;rcases List.mem_append.1 hx with hx |hx
  ·rcases h2 with⟨i,id,_,h6,rfl⟩ |⟨rfl,_⟩
   ·obtain rfl:x=(y.1,id):=by simpa using hx
    unfold entAt at h1 ⊢;obtain⟨E,k1,k2⟩:=Option.bind_eq_some_iff.1 h1;obtain⟨e2,k3⟩:=hids E (List.mem_of_getElem? k1) e' (List.mem_of_getElem? k2) i id h6;exact⟨e2,by rw [k1];exact k3⟩
   ·simp at hx
  ·exact EntsOf.all hids h4 x hx
theorem Je5 (A:Option Addr) (c:Nat) (ad:Int) (L:List (Nat×Int)) (Es:List (List Ent)) (Ap:Option Addr) (cp:Nat) (P:List (Nat×Nat)) (s:ByteArray) (w:World) (h:StkM w A L Es) (hp:Plc w w.heap.size Ap P) (hlp:P.length≤1000) (hin:∀x∈P,∃e,entAt Es x=some e) (hok:∀E∈Es,∀e∈E,Asc e.x.N∧e.ids.length=e.x.N.length)
  (hids:∀E∈Es,∀e∈E,∀(i:Nat) id,e.ids[i]?=some id→∃e',E[id]?=some e'):
  Calls prog 29 #[stkV A L.length c ad,.slice Ap P.length cp,.string s] w fun e w'=>∃Q,EntsOf Es s P Q∧LookOut Es Q w e w':=by
 obtain⟨W0,hW0⟩:=words.nm (w.alloc (.cells #[.slice A L.length c,.int .i64 ad] 29));obtain⟨W1,hW1⟩:=words.nm (W0.alloc (.cells #[.int .i64 0,.int .i64 0,.int .i64 0,.slice none 0 0] 37));have hz:W0.heap.size=w.heap.size+1:=by rw [hW0];simp
 have hb0:=words.b1 hW0;have hb1:Below w.heap.size w W1:=by rw [hW1];exact hb0.alloc hb0.size _
 have hs1:W1.heap[w.heap.size]?=some (.cells #[.slice A L.length c,.int .i64 ad] 29 (0,0)):=by
  rw [hW1];refine (Below.heap_alloc W0 _ _ (by omega)).trans ?_;rw [hW0];exact heap_alloc_new w _
 have hf1:W1.heap[w.heap.size+1]?=some (.cells #[.int .i64 0,.int .i64 0,.int .i64 0,.slice none 0 0] 37 (0,0)):=by rw [hW1,←hz];exact heap_alloc_new W0 _
 have s0:=Jaa hs1 0;have s1:=Jaa hs1 1;have hE1:=Jde A c ad L Es Ap cp P s W1 (h.later hb1) ((hp.keep hb1).more hb1.size) hlp hin hok;unfold stkV at hE1;have HE1:=hid hE1;have HK:=hid hs1;have HF:=hid hf1;have HS:=hid (h.later hb1);have HId:=hid hids;have HSz:Hid (w.heap.size+2≤W1.heap.size):=hid (lt_of_some hf1);rw [hW0] at hW1;have HW1:=hid hW1;have HB1:=hid hb1;clear hW1 hW0 hz hb0 hb1 hs1 hf1 h hp hin hok hids hE1;unfold stkV;go_enter func29,ntmps29
 go_upto_region 1 with fail
 rw [←HW1.out];clear HW1;go_wp2_with fail
 refine HE1.out.mono ?_;rintro en w2 ⟨Q,hQ,hql,Aq,cq,rfl,hpq,hcq,hfr,hb2⟩;have hk2:=(hb2.block _ (lt_of_some HK.out)).trans HK.out;have hf2:=(hb2.block _ (lt_of_some HF.out)).trans HF.out;have HK2:=hid hk2;have HF2:=hid hf2;have HQ:=hid hQ;have HPq:=hid hpq;have HB2:=hid (HB1.out.trans (hb2.mono HB1.out.size));have HS2:=hid (HS.out.later hb2);have HAll:=hid (EntsOf.all HId.out hQ);clear hk2 hf2 hQ hpq hb2 s0 s1 HE1 HK HF HS HB1 HId;rcases Q with _ |⟨⟨lv,nd⟩,Q'⟩
 ·have f0:=Jaa HF2.out 0
  have z0:=Jab HF2.out 0;have f1:=Jaa HF2.out 1;have z1:=Jab HF2.out 1;have f2:=Jaa HF2.out 2;have z2:=Jab HF2.out 2;have f3:=Jaa HF2.out 3;have z3:=Jab HF2.out 3;go_wp2_with fail
  obtain⟨W9,hW9⟩:=words.nm ((((w2.setCell ⟨w.heap.size+1,0,none⟩ (.int .i64 0)).setCell ⟨w.heap.size+1,1,none⟩ (.int .i64 0)).setCell ⟨w.heap.size+1,2,none⟩ (.int .i64 0)).setCell ⟨w.heap.size+1,3,none⟩ (.slice none 0 0));have h9:=over4 (u0:=(.int .i64 0)) (u1:=(.int .i64 0)) (u2:=(.int .i64 0)) (u3:=(.slice none 0 0)) HF2.out;have hle:w.heap.size≤w.heap.size+1:=Nat.le_succ _;have hb9:Below w.heap.size w W9:=by rw [hW9];exact (((HB2.out.setCell (p:=⟨w.heap.size+1,0,none⟩) hle _).setCell (p:=⟨w.heap.size+1,1,none⟩) hle _).setCell (p:=⟨w.heap.size+1,2,none⟩) hle _).setCell (p:=⟨w.heap.size+1,3,none⟩) hle _
  rw [←hW9] at h9 ⊢;have c0:=Jaa h9 0;have c1:=Jaa h9 1;have c2:=Jaa h9 2;have c3:=Jaa h9 3;exact bodyPost_ret (v:= .tuple #[.agg #[.int .i64 0,.int .i64 0,.int .i64 0,.slice none 0 0],.bool false]) (by simp [results,results29,go_sem,c0,c1,c2,c3]) rfl ⟨[],HQ.out,.inl ⟨(fun x e hx=>by simp at hx),rfl⟩,hb9⟩
 ·obtain⟨Q,hQe⟩:=words.nm ((lv,nd)::Q')
  have hx:Q[0]?=some (lv,nd):=by rw [hQe];rfl
  rw [←hQe] at HQ HPq HAll hcq hql ⊢;have hlen:0<Q.length:=by rw [hQe];simp
  clear hQe;obtain⟨e,he⟩:=HAll.out _ (List.mem_of_getElem? hx);obtain⟨E,hE,hEe⟩:∃E,Es[lv]?=some E∧E[nd]?=some e:=by
   have h0:=he;unfold entAt at h0;obtain⟨E,h1,h2⟩:=Option.bind_eq_some_iff.1 h0;exact⟨E,h1,h2⟩
  obtain⟨y,hy⟩:∃y,L[lv]?=some y:=⟨_,List.getElem?_eq_getElem (by rw [←HS2.out.es];exact (List.getElem?_eq_some_iff.1 hE).1)⟩
  obtain⟨b,off,hAq,hb,q0,q1⟩:=HPq.out 0 _ hx;have hbf:w.heap.size+1<b:=Nat.lt_of_lt_of_le (show w.heap.size+1<W1.heap.size from HSz.out) (hfr b off hAq);rw [Nat.zero_mul,Nat.add_zero] at q0 q1;subst hAq;have l0:(0:Int)<(Q.length:Int):=by omega
  have ln0:((Q.length:Int)==0)=false:=by rw [beq_eq_false_iff_ne];omega
  have HKd:=hid (fun (w':World) (hb':Below w2.heap.size w2 w')=>show Calls prog 64 #[.agg #[.slice A L.length c,.int .i64 ad],.agg #[.int .i64 (lv:Int),.int .i64 (nd:Int)]] w' fun en w''=>en= .returned (.int .i64 e.x.K)∧Below w2.heap.size w2 w'' from (Jkb A L.length c lv nd ad L y E e w' (HS2.out.later hb').rows rfl hy ((HS2.out.later hb').brs lv y E hy hE) hEe).mono fun e w'' ⟨h1,h2⟩=>⟨h1,hb'.trans (h2.mono hb'.size)⟩);have HON:=hid (fun (w':World) (hb':Below w2.heap.size w2 w')=>show Calls prog 53 #[.agg #[.slice A L.length c,.int .i64 ad],.slice (some ⟨b,off,none⟩) Q.length cq] w' fun en w''=>en= .returned (.slice (some ⟨b,off,none⟩) (oneN Es Q) cq)∧Below w2.heap.size w2 w'' from (Jga A c ad L Es _ cq Q w' (HS2.out.later hb') ((HPq.out.keep hb').more hb'.size) hcq (by omega) HAll.out).mono fun e w'' ⟨h1,h2⟩=>⟨h1,hb'.trans (h2.mono hb'.size)⟩);have HSS:Hid (∀w':World,Below w2.heap.size w2 w'→(w'.cell? ⟨w.heap.size,0,none⟩=some (.slice A L.length c)∧w'.cell? ⟨w.heap.size,1,none⟩=some (.int .i64 ad)∧w'.cell? ⟨b,off,none⟩=some (.int .i64 (lv:Int))∧w'.cell? ⟨b,off+1,none⟩=some (.int .i64 (nd:Int))∧Below w2.heap.size w2 w')):=hid fun w' hb'=>by
   have e1:=(hb'.block _ (lt_of_some HK2.out)).trans HK2.out;exact⟨Jaa e1 0,Jaa e1 1,(hb'.cell (p:=⟨b,off,none⟩) hb).trans q0,(hb'.cell (p:=⟨b,off+1,none⟩) hb).trans q1,hb'⟩
  have HX:=hid hx;have HEnt:=hid he;have HBf:=hid hbf;have HB60:=hid (Below.refl w2.heap.size w2).drew;obtain⟨s0,s1,-⟩:=HSS.out _ (Below.refl _ _);clear hx he hE hEe hy hb hbf hfr;go_upto_region 4 with fail
  clear q0 q1 s0 s1;go_region_held3 (fun w'=>(w'.cell? ⟨w.heap.size,0,none⟩=some (.slice A L.length c)∧w'.cell? ⟨w.heap.size,1,none⟩=some (.int .i64 ad)∧w'.cell? ⟨b,off,none⟩=some (.int .i64 (lv:Int))∧w'.cell? ⟨b,off+1,none⟩=some (.int .i64 (nd:Int))∧Below w2.heap.size w2 w'))
   (first |exact HSS.out _ (by assumption) |exact HSS.out _ HB60.out)
   (first |((go_at_call 64;with_reducible refine (HKd.out _ (by first |assumption |exact HB60.out)).mono ?_);rintro en w3 ⟨rfl,hb'⟩))
  have HB3:=hid hb';obtain⟨s0,s1,q0,q1,-⟩:=HSS.out _ hb';have hf3:=(hb'.block _ (lt_of_some HF2.out)).trans HF2.out;have HF3:=hid hf3;have HBw3:=hid (HB2.out.trans (hb'.mono HB2.out.size));have f0:=Jaa hf3 0;have z0:=Jab hf3 0;have f1:=Jaa hf3 1;have z1:=Jab hf3 1;have f2:=Jaa hf3 2;have z2:=Jab hf3 2;have f3:=Jaa hf3 3;have z3:=Jab hf3 3;clear hf3 hb' HB60;rcases Decidable.em (e.x.K=1) with h1 |h1
  ·have g1:(e.x.K==1)=true:=by simp [h1]
   have H1:=hid h1;clear h1;go_wp2_with fail
   obtain⟨W9,hW9⟩:=words.nm ((((w3.setCell ⟨w.heap.size+1,0,none⟩ (.int .i64 e.x.K)).setCell ⟨w.heap.size+1,1,none⟩ (.int .i64 (lv:Int))).setCell ⟨w.heap.size+1,2,none⟩ (.int .i64 (nd:Int))).setCell ⟨w.heap.size+1,3,none⟩ (.slice none 0 0));have h9:=over4 (u0:=(.int .i64 e.x.K)) (u1:=(.int .i64 (lv:Int))) (u2:=(.int .i64 (nd:Int))) (u3:=(.slice none 0 0)) HF3.out;have hle:w.heap.size≤w.heap.size+1:=Nat.le_succ _;have hb9:Below w.heap.size w W9:=by rw [hW9];exact (((HBw3.out.setCell (p:=⟨w.heap.size+1,0,none⟩) hle _).setCell (p:=⟨w.heap.size+1,1,none⟩) hle _).setCell (p:=⟨w.heap.size+1,2,none⟩) hle _).setCell (p:=⟨w.heap.size+1,3,none⟩) hle _
   have hoth:∀k,k≠w.heap.size+1→W9.heap[k]?=w3.heap[k]?:=fun k hk=>by rw [hW9,heap_setCell_other _ _ _ _ hk,heap_setCell_other _ _ _ _ hk,heap_setCell_other _ _ _ _ hk,heap_setCell_other _ _ _ _ hk]
   have hsz9:W9.heap.size=w3.heap.size:=by rw [hW9];simp
   rw [←hW9] at h9 ⊢;have c0:=Jaa h9 0;have c1:=Jaa h9 1;have c2:=Jaa h9 2;have c3:=Jaa h9 3;exact bodyPost_ret (v:= .tuple #[.agg #[.int .i64 e.x.K,.int .i64 (lv:Int),.int .i64 (nd:Int),.slice none 0 0],.bool true]) (by simp [results,results29,go_sem,c0,c1,c2,c3]) rfl ⟨Q,HQ.out,.inr (.inl ⟨_,e,HX.out,HEnt.out,.inl H1.out,rfl⟩),hb9⟩
  ·have g1:(e.x.K==1)=false:=by simp [h1]
   rcases Decidable.em (e.x.K=3) with h3 |h3
   ·have g3:(e.x.K==3)=true:=by simp [h3]
    have H3:=hid h3;clear h3;go_wp2_with fail
    obtain⟨W9,hW9⟩:=words.nm ((((w3.setCell ⟨w.heap.size+1,0,none⟩ (.int .i64 e.x.K)).setCell ⟨w.heap.size+1,1,none⟩ (.int .i64 (lv:Int))).setCell ⟨w.heap.size+1,2,none⟩ (.int .i64 (nd:Int))).setCell ⟨w.heap.size+1,3,none⟩ (.slice none 0 0));have h9:=over4 (u0:=(.int .i64 e.x.K)) (u1:=(.int .i64 (lv:Int))) (u2:=(.int .i64 (nd:Int))) (u3:=(.slice none 0 0)) HF3.out;have hle:w.heap.size≤w.heap.size+1:=Nat.le_succ _;have hb9:Below w.heap.size w W9:=by rw [hW9];exact (((HBw3.out.setCell (p:=⟨w.heap.size+1,0,none⟩) hle _).setCell (p:=⟨w.heap.size+1,1,none⟩) hle _).setCell (p:=⟨w.heap.size+1,2,none⟩) hle _).setCell (p:=⟨w.heap.size+1,3,none⟩) hle _
    have hoth:∀k,k≠w.heap.size+1→W9.heap[k]?=w3.heap[k]?:=fun k hk=>by rw [hW9,heap_setCell_other _ _ _ _ hk,heap_setCell_other _ _ _ _ hk,heap_setCell_other _ _ _ _ hk,heap_setCell_other _ _ _ _ hk]
    have hsz9:W9.heap.size=w3.heap.size:=by rw [hW9];simp
    rw [←hW9] at h9 ⊢;have c0:=Jaa h9 0;have c1:=Jaa h9 1;have c2:=Jaa h9 2;have c3:=Jaa h9 3;exact bodyPost_ret (v:= .tuple #[.agg #[.int .i64 e.x.K,.int .i64 (lv:Int),.int .i64 (nd:Int),.slice none 0 0],.bool true]) (by simp [results,results29,go_sem,c0,c1,c2,c3]) rfl ⟨Q,HQ.out,.inr (.inl ⟨_,e,HX.out,HEnt.out,.inr H3.out,rfl⟩),hb9⟩
   ·have g3:(e.x.K==3)=false:=by simp [h3]
    rcases Decidable.em (e.x.K=2) with h2 |h2
    ·have g2:(e.x.K==2)=true:=by simp [h2]
     have H2:=hid h2;clear h2;go_upto_region 10 with fail
     have HSk:Hid (∀w':World,Below w2.heap.size w2 w'→(w'.cell? ⟨w.heap.size,0,none⟩=some (.slice A L.length c)∧w'.cell? ⟨w.heap.size,1,none⟩=some (.int .i64 ad)∧w'.cell? ⟨b,off,none⟩=some (.int .i64 (lv:Int))∧w'.cell? ⟨b,off+1,none⟩=some (.int .i64 (nd:Int)))):=hid fun w' hb'=>by
      obtain⟨a1,a2,a3,a4,_⟩:=HSS.out w' hb';exact⟨a1,a2,a3,a4⟩
     have HB3d:=hid HB3.out.drew;have HSd:=hid (HSk.out _ HB3d.out);have ne1:w.heap.size+1≠w.heap.size:=by omega
     have ne2:w.heap.size+1≠b:=by have:=HBf.out;omega
     clear f0 f1 f2 f3 z0 z1 z2 z3 s0 s1 q0 q1;go_region_held3 (fun w'=>w'.cell? ⟨w.heap.size,0,none⟩=some (.slice A L.length c)∧w'.cell? ⟨w.heap.size,1,none⟩=some (.int .i64 ad)∧w'.cell? ⟨b,off,none⟩=some (.int .i64 (lv:Int))∧w'.cell? ⟨b,off+1,none⟩=some (.int .i64 (nd:Int)))
      (first |with_reducible exact HSd.out |with_reducible exact HSk.out _ hb5 |go_keep)
      (first |(go_at_call 53;with_reducible refine (HON.out _ HB3d.out).mono ?_;rintro en w5 ⟨rfl,hb5⟩;have hf5:=(hb5.block _ (lt_of_some HF2.out)).trans HF2.out;have f0:=Jaa hf5 0;have f1:=Jaa hf5 1;have f2:=Jaa hf5 2;have f3:=Jaa hf5 3;have z0:=Jab hf5 0;have z1:=Jab hf5 1;have z2:=Jab hf5 2;have z3:=Jab hf5 3))
     have hP5:=(HPq.out.keep hb5).more hb5.size;have hB5:=HB2.out.trans (hb5.mono HB2.out.size);obtain⟨W9,hW9⟩:=words.nm ((((w5.setCell ⟨w.heap.size+1,0,none⟩ (.int .i64 e.x.K)).setCell ⟨w.heap.size+1,1,none⟩ (.int .i64 (lv:Int))).setCell ⟨w.heap.size+1,2,none⟩ (.int .i64 (nd:Int))).setCell ⟨w.heap.size+1,3,none⟩ (.slice (some ⟨b,off,none⟩) (oneN Es Q) cq));have h9:=over4 (u0:=(.int .i64 e.x.K)) (u1:=(.int .i64 (lv:Int))) (u2:=(.int .i64 (nd:Int))) (u3:=(.slice (some ⟨b,off,none⟩) (oneN Es Q) cq)) hf5;have hle:w.heap.size≤w.heap.size+1:=Nat.le_succ _;have hb9:Below w.heap.size w W9:=by rw [hW9];exact (((hB5.setCell (p:=⟨w.heap.size+1,0,none⟩) hle _).setCell (p:=⟨w.heap.size+1,1,none⟩) hle _).setCell (p:=⟨w.heap.size+1,2,none⟩) hle _).setCell (p:=⟨w.heap.size+1,3,none⟩) hle _
     have hoth:∀k,k≠w.heap.size+1→W9.heap[k]?=w5.heap[k]?:=fun k hk=>by rw [hW9,heap_setCell_other _ _ _ _ hk,heap_setCell_other _ _ _ _ hk,heap_setCell_other _ _ _ _ hk,heap_setCell_other _ _ _ _ hk]
     have hsz9:W9.heap.size=w5.heap.size:=by rw [hW9];simp
     rw [←hW9] at h9 ⊢;have c0:=Jaa h9 0;have c1:=Jaa h9 1;have c2:=Jaa h9 2;have c3:=Jaa h9 3;have hP9:Plc W9 W9.heap.size (some ⟨b,off,none⟩) Q:=fun i x hx=>by
      obtain⟨b',off',e1,e2,e3,e4⟩:=hP5 i x hx;injection e1 with e1;injection e1 with e1 e1';subst e1 e1';have hk:=hoth b ne2.symm;exact⟨b,off,rfl,by rw [hsz9];exact e2,(World.cell?_of_block hk).trans e3,(World.cell?_of_block hk).trans e4⟩
     have hol:=Jdh Es Q;have htl:(Q.take (oneN Es Q)).length=oneN Es Q:=by rw [List.length_take];exact Nat.min_eq_left hol
     have HFin:Hid (∃Q0,EntsOf Es s P Q0∧LookOut Es Q0 w (.returned (.tuple #[.agg #[.int .i64 e.x.K,.int .i64 (lv:Int),.int .i64 (nd:Int),.slice (some ⟨b,off,none⟩) (oneN Es Q) cq],.bool true])) W9):=hid ⟨Q,HQ.out,.inr (.inr ⟨_,e,some ⟨b,off,none⟩,cq,HX.out,HEnt.out,H2.out,by rw [htl];rfl,hP9.take _,by omega⟩),hb9⟩;clear hP9 hol htl hP5 hB5 hb9 hoth hsz9 hW9 hb5 hf5;go_wp2_with fail
     exact bodyPost_ret (v:= .tuple #[.agg #[.int .i64 e.x.K,.int .i64 (lv:Int),.int .i64 (nd:Int),.slice (some ⟨b,off,none⟩) (oneN Es Q) cq],.bool true]) (by simp [results,results29,go_sem,c0,c1,c2,c3]) rfl HFin.out
    ·have g2:(e.x.K==2)=false:=by simp [h2]
     go_wp2_with fail
     obtain⟨W9,hW9⟩:=words.nm ((((w3.setCell ⟨w.heap.size+1,0,none⟩ (.int .i64 0)).setCell ⟨w.heap.size+1,1,none⟩ (.int .i64 0)).setCell ⟨w.heap.size+1,2,none⟩ (.int .i64 0)).setCell ⟨w.heap.size+1,3,none⟩ (.slice none 0 0));have h9:=over4 (u0:=(.int .i64 0)) (u1:=(.int .i64 0)) (u2:=(.int .i64 0)) (u3:=(.slice none 0 0)) HF3.out;have hle:w.heap.size≤w.heap.size+1:=Nat.le_succ _;have hb9:Below w.heap.size w W9:=by rw [hW9];exact (((HBw3.out.setCell (p:=⟨w.heap.size+1,0,none⟩) hle _).setCell (p:=⟨w.heap.size+1,1,none⟩) hle _).setCell (p:=⟨w.heap.size+1,2,none⟩) hle _).setCell (p:=⟨w.heap.size+1,3,none⟩) hle _
     have hoth:∀k,k≠w.heap.size+1→W9.heap[k]?=w3.heap[k]?:=fun k hk=>by rw [hW9,heap_setCell_other _ _ _ _ hk,heap_setCell_other _ _ _ _ hk,heap_setCell_other _ _ _ _ hk,heap_setCell_other _ _ _ _ hk]
     have hsz9:W9.heap.size=w3.heap.size:=by rw [hW9];simp
     rw [←hW9] at h9 ⊢;have c0:=Jaa h9 0;have c1:=Jaa h9 1;have c2:=Jaa h9 2;have c3:=Jaa h9 3;exact bodyPost_ret (v:= .tuple #[.agg #[.int .i64 0,.int .i64 0,.int .i64 0,.slice none 0 0],.bool false]) (by simp [results,results29,go_sem,c0,c1,c2,c3]) rfl ⟨Q,HQ.out,.inl ⟨(fun x e' hx he=>by have hxx:=HX.out;rw [hx] at hxx;injection hxx with hxx;subst hxx;have hee:=HEnt.out;rw [he] at hee;injection hee with hee;subst hee;exact⟨h1,h2,h3⟩),rfl⟩,hb9⟩
end Go.Proofs.YtkjpgheealfedaaGreatDoor.seen
