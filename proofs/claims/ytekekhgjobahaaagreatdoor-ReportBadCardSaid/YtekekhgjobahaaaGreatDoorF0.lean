import Derived.Test.YtekekhgjobahaaaGreatDoorB6
set_option maxHeartbeats 12800000
set_option maxRecDepth 100000
open Go.Lib (hid)
open Go.Proofs.Tryz
namespace Go.Proofs.YtekekhgjobahaaaGreatDoor.seen
open Go.RowKit words ext name tre stk

def spotV (l i:Int):Value:= .agg #[.int .i64 l,.int .i64 i]
theorem Jut (A:Option Addr) (n c k j:Nat) (ad:Int) (L:List (Nat×Int)) (x:Nat×Int) (E:List Ent) (e:Ent) (w:World) (h:stk.Rows w w.heap.size A L) (hn:L.length=n) (hx:L[k]?=some x) (hb:Brn w w.heap.size x.1 E) (he:E[j]?=some e):
  Calls prog 273 #[stkV A n c ad,spotV (k:Int) (j:Int)] w fun en w'=>en= .returned (.int .i64 e.x.K)∧Below w.heap.size w w':=by
 obtain⟨Wa,hWa⟩:=words.nm (w.alloc (.cells #[.slice A n c,.int .i64 ad] 38));obtain⟨W1,hW1⟩:=words.nm (Wa.alloc (.cells #[.int .i64 (k:Int),.int .i64 (j:Int)] 242));have hz:Wa.heap.size=w.heap.size+1:=by rw [hWa];simp
 have hba:=words.b1 hWa;have hb1:Below w.heap.size w W1:=by rw [hW1];exact hba.alloc hba.size _
 have hs1:W1.heap[w.heap.size]?=some (.cells #[.slice A n c,.int .i64 ad] 38 (0,0)):=by
  rw [hW1];refine (Below.heap_alloc Wa _ _ (by omega)).trans ?_;rw [hWa];exact heap_alloc_new w _
 have hp1:W1.heap[w.heap.size+1]?=some (.cells #[.int .i64 (k:Int),.int .i64 (j:Int)] 242 (0,0)):=by rw [hW1,←hz];exact heap_alloc_new Wa _
 have s0:W1.cell? ⟨w.heap.size,0,none⟩=some (.slice A n c):=Jaa hs1 0;have s1:W1.cell? ⟨w.heap.size,1,none⟩=some (.int .i64 ad):=Jaa hs1 1;have p0:W1.cell? ⟨w.heap.size+1,0,none⟩=some (.int .i64 (k:Int)):=Jaa hp1 0;have hr:=Jmb A n c k ad L x W1 ((h.keep hb1).more hb1.size) hn hx;unfold stkV at hr ⊢;unfold spotV;have HR:=hid hr;rw [hWa] at hW1;have HW1:=hid hW1;have HB1:=hid hb1;have HP1:=hid hp1;have HBr:=hid (hb.later hb1);have HE:=hid he;clear h hx hb he hba hb1 hs1 hp1 hW1 hWa hz hr;go_enter func273,ntmps273
 go_upto_region 1 with fail
 rw [←HW1.out];go_wp2_with fail
 refine HR.out.mono ?_;rintro en w2 ⟨rfl,hb2⟩;have p1:w2.cell? ⟨w.heap.size+1,1,none⟩=some (.int .i64 (j:Int)):=Jaa ((hb2.block _ (lt_of_some HP1.out)).trans HP1.out) 1;have HK:=hid (Jsf x.1 j E e w2 (HBr.out.later hb2) HE.out);have HB2:=hid (HB1.out.trans (hb2.mono HB1.out.size));clear hb2 HR s0 s1 p0;go_wp2_with fail
 refine HK.out.mono ?_;rintro en w3 ⟨rfl,hb3⟩;have HB3:=hid (HB2.out.trans (hb3.mono HB2.out.size));clear hb3 HK HB2 p1;go_wp2_with fail
 go_ret
 exact⟨rfl,HB3.out⟩

structure StkM (w:World) (A:Option Addr) (L:List (Nat×Int)) (Es:List (List Ent)):Prop where
 rows:stk.Rows w w.heap.size A L
 es:Es.length=L.length
 brs:∀(k:Nat) (x:Nat×Int) (E:List Ent),L[k]?=some x→Es[k]?=some E→Brn w w.heap.size x.1 E
theorem StkM.later {w w':World} {A:Option Addr} {L:List (Nat×Int)} {Es:List (List Ent)} (h:StkM w A L Es) (hb:Below w.heap.size w w'):StkM w' A L Es:=
 ⟨(h.rows.keep hb).more hb.size,h.es,fun k x E h1 h2=>(h.brs k x E h1 h2).later hb⟩
def Plc (w:World) (B:Nat) (A:Option Addr) (P:List (Nat×Nat)):Prop:=
 ∀(i:Nat) (x:Nat×Nat),P[i]?=some x→∃b off,A=some ⟨b,off,none⟩∧b<B∧w.cell? ⟨b,off+i*2,none⟩=some (.int .i64 (x.1:Int))∧w.cell? ⟨b,off+i*2+1,none⟩=some (.int .i64 (x.2:Int))
theorem Plc.keep {w w':World} {B:Nat} {A:Option Addr} {P:List (Nat×Nat)} (h:Plc w B A P) (hb:Below B w w'):Plc w' B A P:=fun i x hx=>by
 obtain⟨b,off,h1,h2,h3,h4⟩:=h i x hx;exact⟨b,off,h1,h2,(hb.cell (p:=⟨b,off+i*2,none⟩) h2).trans h3,(hb.cell (p:=⟨b,off+i*2+1,none⟩) h2).trans h4⟩
theorem Plc.more {w:World} {B B':Nat} {A:Option Addr} {P:List (Nat×Nat)} (h:Plc w B A P) (hB:B≤B'):Plc w B' A P:=fun i x hx=>by
 obtain⟨b,off,h1,h2,h3⟩:=h i x hx;exact⟨b,off,h1,Nat.lt_of_lt_of_le h2 hB,h3⟩
def entAt (Es:List (List Ent)) (x:Nat×Nat):Option Ent:=(Es[x.1]?).bind (·[x.2]?)
def oneN (Es:List (List Ent)):List (Nat×Nat)→Nat
 |[]=>0
 |x::P=>match entAt Es x with
  |none=>0
  |some e=>if e.x.K=2 then (if e.x.O=true then 1 else oneN Es P+1) else 0
theorem Jqu {Es:List (List Ent)} {P:List (Nat×Nat)} {k:Nat} {x:Nat×Nat} {e:Ent} (hx:P[k]?=some x) (he:entAt Es x=some e):oneN Es (P.drop k)=if e.x.K=2 then (if e.x.O=true then 1 else oneN Es (P.drop (k+1))+1) else 0:=by
 obtain⟨hk,rfl⟩:=List.getElem?_eq_some_iff.1 hx;rw [List.drop_eq_getElem_cons hk,oneN,he]
theorem infoSpot:(Tryz.prog.info? 242).map (fun i=>(i.zero,i.size,i.bytes))=some (some (.agg #[.int .i64 0,.int .i64 0]),2,16):=by kernel_rfl
theorem Jkc (A:Option Addr) (n cap i:Nat) (h:i≤cap) (wx:World):
  (Instr.slice 244 (.slice A n cap) none (some (.int .i64 (i:Int))) none).run prog wx= .ok (.slice A i cap) wx:=by
 obtain⟨i0,hi,hz0,hz1,hz2⟩:=info_parts infoSpot;have he:Tryz.prog.elem 244=242:=by kernel_rfl
 rw [run_slice_h (P:=prog) wx 244 A n cap (by kernel_rfl) .i64 (i:Int) (by omega) (by omega),he];simp [sizeOf,typeInfo,hi,hz1,Result.andThen,sliced];rcases A with _ |A
 ·intro _;rfl
 ·simp [Addr.add]
theorem Jss (A:Option Addr) (c:Nat) (ad:Int) (L:List (Nat×Int)) (Es:List (List Ent)) (Ap:Option Addr) (cp:Nat) (P:List (Nat×Nat)) (w:World) (h:StkM w A L Es) (hp:Plc w w.heap.size Ap P) (hcp:P.length≤cp) (hlp:P.length≤1000) (hin:∀x∈P,∃e,entAt Es x=some e):
  Calls prog 269 #[stkV A L.length c ad,.slice Ap P.length cp] w fun e w'=>e= .returned (.slice Ap (oneN Es P) cp)∧Below w.heap.size w w':=by
 obtain⟨W1,hW1⟩:=words.nm (w.alloc (.cells #[.slice A L.length c,.int .i64 ad] 38));have hb1:=words.b1 hW1;have hs1:W1.heap[w.heap.size]?=some (.cells #[.slice A L.length c,.int .i64 ad] 38 (0,0)):=by rw [hW1];exact heap_alloc_new w _
 have HK:=hid hs1;have HS:=hid (h.later hb1);have HP:=hid ((hp.keep hb1).more hb1.size);have HIn:=hid hin;have HW1:=hid hW1;have HB1:=hid hb1;clear hW1 hb1 hs1 h hp hin;unfold stkV;go_enter func269,ntmps269
 go_upto_region 1 with fail
 rw [←HW1.out];clear HW1;go_wp2_with fail
 go_loopw [9] (fun v wr=>∃k:Nat,v= .int .i64 (k:Int)∧k≤P.length∧Hid (oneN Es P=k+oneN Es (P.drop k))∧Hid (Below W1.heap.size W1 wr)) (fun v _=>P.length - (intOf v).toNat)
 case atStart=>exact⟨0,rfl,Nat.zero_le _,hid (by rw [List.drop_zero,Nat.zero_add]),hid (Below.refl _ _)⟩
 case round=>
  obtain⟨k,rfl,hk,HO,HB⟩:=hrel;by_cases hlt:k<P.length
  ·obtain⟨⟨lv,nd⟩,hx⟩:∃x,P[k]?=some x:=⟨_,List.getElem?_eq_getElem hlt⟩
   obtain⟨e,he⟩:=HIn.out _ (List.mem_of_getElem? hx);have hst:=Jqu hx he;obtain⟨E,hE,hEe⟩:∃E,Es[lv]?=some E∧E[nd]?=some e:=by
    unfold entAt at he;obtain⟨E,h1,h2⟩:=Option.bind_eq_some_iff.1 he;exact⟨E,h1,h2⟩
   have hSr:=HS.out.later HB.out;obtain⟨y,hy⟩:∃y,L[lv]?=some y:=⟨_,List.getElem?_eq_getElem (by rw [←hSr.es];exact (List.getElem?_eq_some_iff.1 hE).1)⟩
   obtain⟨b,off,hAp,hb,q0,q1⟩:=(HP.out.keep HB.out) k _ hx;subst hAp;have i0:(0:Int)≤(k:Int):=by omega
   have i1:(k:Int)<(P.length:Int):=by omega
   have hkr:=(HB.out.block _ (lt_of_some HK.out)).trans HK.out;obtain⟨W2,hW2⟩:=words.nm (wr.alloc (.cells #[.int .i64 (lv:Int),.int .i64 (nd:Int)] 242));have hb2:Below wr.heap.size wr W2:=words.b1 hW2;have hk2:W2.heap[wr.heap.size]?=some (.cells #[.int .i64 (lv:Int),.int .i64 (nd:Int)] 242 (0,0)):=by rw [hW2];exact heap_alloc_new wr _
   have hs2:=(hb2.block _ (lt_of_some hkr)).trans hkr;have hS2:=hSr.later hb2;have HKd:=hid (Jut A L.length c lv nd ad L y E e W2 hS2.rows rfl hy (hS2.brs lv y E hy hE) hEe);have HSS:Hid (∀w':World,Below W2.heap.size W2 w'→(w'.cell? ⟨w.heap.size,0,none⟩=some (.slice A L.length c)∧w'.cell? ⟨w.heap.size,1,none⟩=some (.int .i64 ad)∧w'.cell? ⟨wr.heap.size,0,none⟩=some (.int .i64 (lv:Int))∧w'.cell? ⟨wr.heap.size,1,none⟩=some (.int .i64 (nd:Int))∧Below W2.heap.size W2 w')):=hid fun w' hb'=>by
    have e1:=(hb'.block _ (lt_of_some hs2)).trans hs2;have e2:=(hb'.block _ (lt_of_some hk2)).trans hk2;exact⟨Jaa e1 0,Jaa e1 1,Jaa e2 0,Jaa e2 1,hb'⟩
   have HAT:=hid (fun (w':World) (hb':Below W2.heap.size W2 w')=>show Calls prog 276 #[.agg #[.slice A L.length c,.int .i64 ad],.int .i64 (lv:Int)] w' fun e w''=>e= .returned (.pointer (some ⟨y.1,0,none⟩))∧Below W2.heap.size W2 w'' from (Jmb A L.length c lv ad L y w' (hS2.later hb').rows rfl hy).mono fun e w'' ⟨h1,h2⟩=>⟨h1,hb'.trans (h2.mono hb'.size)⟩);have HOP:=hid (fun (w':World) (hb':Below W2.heap.size W2 w')=>show Calls prog 297 #[.pointer (some ⟨y.1,0,none⟩),.int .i64 (nd:Int)] w' fun en w''=>en= .returned (.bool e.x.O)∧Below W2.heap.size W2 w'' from (Js0 y.1 nd E e w' ((hS2.later hb').brs lv y E hy hE) hEe).mono fun e w'' ⟨h1,h2⟩=>⟨h1,hb'.trans (h2.mono hb'.size)⟩);have HBx:=hid (HB.out.trans (hb2.mono HB.out.size));have HW2:=hid hW2;have hs0:=Jkc (some ⟨b,off,none⟩) P.length cp k (by omega);have hs1:=Jkc (some ⟨b,off,none⟩) P.length cp (k+1) (by omega);have HSt:=hid hst;clear hx he hst hE hEe hSr hy hb hkr hb2 hk2 hs2 hS2 hW2;go_upto_region 4 with fail
   rw [←HW2.out];clear q0 q1 HW2;have hS0:=HSS.out _ (Below.refl _ _);obtain⟨s0,s1,p0,p1,-⟩:=hS0;rcases Decidable.em (e.x.K=2) with hk2 |hk2
   ·have g2:(e.x.K !=2)=false:=by simp [hk2]
    have HSt2:Hid (oneN Es (P.drop k)=if e.x.O=true then 1 else oneN Es (P.drop (k+1))+1):=hid (by rw [HSt.out,if_pos hk2]);clear hk2 HSt;unfold stkV spotV at HKd;go_wp2_with fail
    refine HKd.out.mono ?_;rintro en w3 ⟨rfl,hb3⟩;have HB60:=hid hb3.drew;clear hb3 s0 s1 p0 p1 HKd;go_upto_region 6 with fail
    go_region_held3 (fun w'=>(w'.cell? ⟨w.heap.size,0,none⟩=some (.slice A L.length c)∧w'.cell? ⟨w.heap.size,1,none⟩=some (.int .i64 ad)∧w'.cell? ⟨wr.heap.size,0,none⟩=some (.int .i64 (lv:Int))∧w'.cell? ⟨wr.heap.size,1,none⟩=some (.int .i64 (nd:Int))∧Below W2.heap.size W2 w'))
     (first |exact HSS.out _ (by assumption) |exact HSS.out _ HB60.out)
     (first |((go_at_call 276;with_reducible refine (HAT.out _ (by first |assumption |exact HB60.out)).mono ?_);rintro en w' ⟨rfl,hb'⟩) |((go_at_call 297;with_reducible refine (HOP.out _ (by first |assumption |exact HB60.out)).mono ?_);rintro en w' ⟨rfl,hb'⟩))
    all_goals
     have HF:=hid (HBx.out.trans (hb'.mono HBx.out.size));clear hb';rcases ho:e.x.O with _ |_
     ·have HO2:Hid (oneN Es P=k+1+oneN Es (P.drop (k+1))):=hid (by rw [HO.out,HSt2.out,ho,if_neg (by decide)];omega)
      clear ho HSt2 HO;go_wp2_with fail
      go_roundw
      case rel=>exact⟨k+1,by go_num,by omega,HO2,HF⟩
      case measure=>simp [intOf];omega
     ·have HO2:Hid (oneN Es P=k+1):=hid (by rw [HO.out,HSt2.out,ho,if_pos rfl])
      have HG:=hid (HB1.out.trans (HF.out.mono HB1.out.size));have gk:IntKind.i64.wrap ((k:Int)+1)=((k+1:Nat):Int):=by rw [IntWalk.i64_in _ (by omega)];omega
      clear ho HSt2 HO HF;go_wp2_with fail
      go_ret
      exact⟨by rw [HO2.out];rfl,HG.out⟩
   ·have g2:(e.x.K !=2)=true:=by simp [hk2]
    have HSt2:Hid (oneN Es P=k):=hid (by rw [HO.out,HSt.out,if_neg hk2,Nat.add_zero]);clear hk2 HSt HO;unfold stkV spotV at HKd;go_wp2_with fail
    refine HKd.out.mono ?_;rintro en w3 ⟨rfl,hb3⟩;have HF:=hid (HB1.out.trans ((HBx.out.trans (hb3.mono HBx.out.size)).mono HB1.out.size));clear hb3 s0 s1 p0 p1 HKd;go_wp2_with fail
    go_ret
    exact⟨by rw [HSt2.out];rfl,HF.out⟩
  ·obtain rfl:k=P.length:=by omega
   have HSt2:Hid (oneN Es P=P.length):=hid (by rw [HO.out,List.drop_length,oneN,Nat.add_zero]);have HF:=hid (HB1.out.trans (HB.out.mono HB1.out.size));clear HO HB;go_wp2_with fail
   go_ret
   exact⟨by rw [HSt2.out];rfl,HF.out⟩

def spC (x:Nat×Nat):List Value:=[.int .i64 (x.1:Int),.int .i64 (x.2:Int)]
theorem Jhj:∀{P:List (Nat×Nat)} {k:Nat} {x:Nat×Nat},P[k]?=some x→∀j,j<2→(P.flatMap spC)[k*2+j]?=(spC x)[j]?
 |[],k,x,hk,_,_=>by simp at hk
 |y::L,k,x,hk,j,hj=>by
  rw [List.flatMap_cons];rcases k with _ |k
  ·obtain rfl:y=x:=by simpa using hk
   rw [List.getElem?_append_left (by simp [spC];omega),Nat.zero_mul,Nat.zero_add]
  ·rw [List.getElem?_append_right (by simp [spC];omega),←Jhj (P:=L) (k:=k) (by simpa using hk) j hj]
   congr 1;simp [spC];omega
theorem Jwp {w:World} {B n c:Nat} {A:Option Addr} {P:List (Nat×Nat)} (h:w.ownsRow B 242 2 (.slice A n c) n (P.flatMap spC)):Plc w w.heap.size A P:=fun i x hx=>by
 obtain⟨b,_,e1,_,e2,_,e3⟩:=own_cell h (j:=i*2+0) (u:= .int .i64 (x.1:Int)) (by rw [Jhj hx 0 (by omega)];rfl);obtain⟨b',_,e4,_,_,_,e5⟩:=own_cell h (j:=i*2+1) (u:= .int .i64 (x.2:Int)) (by rw [Jhj hx 1 (by omega)];rfl);rw [e1] at e4;injection e4 with e4;injection e4 with e4;subst e4;exact⟨b,0,e1,e2,by rw [Nat.zero_add];exact e3,by rw [Nat.zero_add];exact e5⟩
theorem Plc.take {w:World} {B:Nat} {A:Option Addr} {P:List (Nat×Nat)} (h:Plc w B A P) (n:Nat):Plc w B A (P.take n):=fun i x hx=>h i x (by
  rw [List.getElem?_take] at hx;split at hx
  ·exact hx
  ·cases hx)
def roots (n:Nat):List (Nat×Nat):=(List.range n).map fun k=>(k,0)
def PlcOut (P:List (Nat×Nat)) (w:World) (e:Ending) (w':World):Prop:=∃A c,e= .returned (.slice A P.length c)∧Plc w' w'.heap.size A P∧P.length≤c∧(∀b off,A=some ⟨b,off,none⟩→w.heap.size≤b)∧Below w.heap.size w w'
theorem Jfp (w:World) (cs:Array Value) (E:TypeId) (i:Nat):(w.alloc (.cells cs E)).cell? ((⟨w.heap.size,0,none⟩:Addr).add i)=cs[i]?:=by
 rw [add_place,Nat.zero_add];exact Jaa (heap_alloc_new w _) i
theorem ownL {w w':World} {B size n:Nat} {E:TypeId} {v:Value} {xs:List Value} (h:w.ownsRow B E size v n xs) (hb:Below w.heap.size w w'):w'.ownsRow B E size v n xs:=by
 refine⟨h.1,?_⟩;rcases h.2 with h0 |⟨g,cap,cur,h1,h2,h3,h4⟩
 ·exact .inl h0
 ·exact .inr ⟨g,cap,cur,h1,h2,(hb.block g (lt_of_some h3)).trans h3,h4⟩

def Lk (e:Ent) (s:ByteArray) (o:Option Nat):Prop:=(∃(i id:Nat),e.x.N[i]?=some s∧e.ids[i]?=some id∧o=some id)∨(o=none∧∀j:Nat,e.x.N[j]?≠some s)
def EntsOf (Es:List (List Ent)) (s:ByteArray):List (Nat×Nat)→List (Nat×Nat)→Prop
 |[],Q=>Q=[]
 |x::P,Q=>∃e o Q',entAt Es x=some e∧Lk e s o∧Q=(o.map fun i=>(x.1,i)).toList++Q'∧EntsOf Es s P Q'
theorem EntsOf.snoc {Es:List (List Ent)} {s:ByteArray} {x:Nat×Nat} {e:Ent} {o:Option Nat} (he:entAt Es x=some e) (hl:Lk e s o):∀{P Q:List (Nat×Nat)},EntsOf Es s P Q→EntsOf Es s (P++[x]) (Q++(o.map fun i=>(x.1,i)).toList)
 |[],Q,h=>by
  have h':Q=[]:=h;subst h';exact⟨e,o,[],he,hl,by simp,rfl⟩
 |y::P,Q,⟨e',o',Q',h1,h2,h3,h4⟩=>⟨e',o',_,h1,h2,by rw [h3,List.append_assoc],EntsOf.snoc he hl h4⟩
theorem Jg1 (A:Option Addr) (c:Nat) (ad:Int) (L:List (Nat×Int)) (Es:List (List Ent)) (Ap:Option Addr) (cp:Nat) (P:List (Nat×Nat)) (s:ByteArray) (w:World) (h:StkM w A L Es) (hp:Plc w w.heap.size Ap P) (hlp:P.length≤1000) (hin:∀x∈P,∃e,entAt Es x=some e) (hok:∀E∈Es,∀e∈E,Asc e.x.N∧e.ids.length=e.x.N.length):
  Calls prog 272 #[stkV A L.length c ad,.slice Ap P.length cp,.string s] w fun e w'=>∃Q,EntsOf Es s P Q∧Q.length≤P.length∧PlcOut Q w e w':=by
 obtain⟨W1,hW1⟩:=words.nm (w.alloc (.cells #[.slice A L.length c,.int .i64 ad] 38));have hb1:=words.b1 hW1;have hs1:W1.heap[w.heap.size]?=some (.cells #[.slice A L.length c,.int .i64 ad] 38 (0,0)):=by rw [hW1];exact heap_alloc_new w _
 have HK:=hid hs1;have HS:=hid (h.later hb1);have HP:=hid ((hp.keep hb1).more hb1.size);have HIn:=hid hin;have HOk:=hid hok;have HW1:=hid hW1;have HB1:=hid hb1;clear hW1 hb1 hs1 h hp hin hok;obtain⟨iS,hiS,zS0,zS1,zS2⟩:=info_parts infoSpot;unfold stkV;go_enter func272,ntmps272
 go_upto_region 1 with fail
 rw [←HW1.out];clear HW1;go_wp2_with fail
 go_loopw [15,7] (fun v v7 wr=>∃(k:Nat) (Q:List (Nat×Nat)),v= .int .i64 (k:Int)∧k≤P.length∧Q.length≤k∧Hid (EntsOf Es s (P.take k) Q)∧Hid (wr.ownsRow W1.heap.size 242 2 v7 Q.length (Q.flatMap spC))∧Hid (Below W1.heap.size W1 wr)) (fun v _ _=>P.length - (intOf v).toNat)
 case atStart=>exact⟨0,[],rfl,Nat.zero_le _,Nat.le_refl _,hid rfl,hid (World.ownsRow_nil _ _ _ _),hid (Below.refl _ _)⟩
 case round=>
  obtain⟨k,Q,rfl,hk,hq,HE,HO,HB⟩:=hrel;obtain⟨Ar,cr,rfl,hcr,_⟩:=own_facts HO.out;by_cases hlt:k<P.length
  ·obtain⟨⟨lv,nd⟩,hx⟩:∃x,P[k]?=some x:=⟨_,List.getElem?_eq_getElem hlt⟩
   obtain⟨e,he⟩:=HIn.out _ (List.mem_of_getElem? hx);obtain⟨E,hE,hEe⟩:∃E,Es[lv]?=some E∧E[nd]?=some e:=by
    have h0:=he;unfold entAt at h0;obtain⟨E,h1,h2⟩:=Option.bind_eq_some_iff.1 h0;exact⟨E,h1,h2⟩
   have hoke:=HOk.out E (List.mem_of_getElem? hE) e (List.mem_of_getElem? hEe);have hSr:=HS.out.later HB.out;obtain⟨y,hy⟩:∃y,L[lv]?=some y:=⟨_,List.getElem?_eq_getElem (by rw [←hSr.es];exact (List.getElem?_eq_some_iff.1 hE).1)⟩
   obtain⟨b,off,hAp,hb,q0,q1⟩:=(HP.out.keep HB.out) k _ hx;subst hAp;have i0:(0:Int)≤(k:Int):=by omega
   have i1:(k:Int)<(P.length:Int):=by omega
   have hkr:=(HB.out.block _ (lt_of_some HK.out)).trans HK.out;obtain⟨W2,hW2⟩:=words.nm (wr.alloc (.cells #[.int .i64 (lv:Int),.int .i64 (nd:Int)] 242));have hb2:Below wr.heap.size wr W2:=words.b1 hW2;have hk2:W2.heap[wr.heap.size]?=some (.cells #[.int .i64 (lv:Int),.int .i64 (nd:Int)] 242 (0,0)):=by rw [hW2];exact heap_alloc_new wr _
   have hs2:=(hb2.block _ (lt_of_some hkr)).trans hkr;have hS2:=hSr.later hb2;have HAT:=hid (show Calls prog 276 #[.agg #[.slice A L.length c,.int .i64 ad],.int .i64 (lv:Int)] W2 fun e w''=>e= .returned (.pointer (some ⟨y.1,0,none⟩))∧Below W2.heap.size W2 w'' from Jmb A L.length c lv ad L y W2 hS2.rows rfl hy);have HBy:=hid (hS2.brs lv y E hy hE);have HOx:=hid (ownL HO.out hb2);have HBx:=hid (HB.out.trans (hb2.mono HB.out.size));have HK2:=hid hk2;have HW2:=hid hW2;have HEe:=hid hEe;have HOe:=hid hoke;have HNx:Hid (∀o,Lk e s o→EntsOf Es s (P.take (k+1)) (Q++(o.map fun i=>(lv,i)).toList)):=hid fun o ho=>by
    obtain⟨hkl,hxx⟩:=List.getElem?_eq_some_iff.1 hx;rw [List.take_succ_eq_append_getElem hkl,hxx];exact EntsOf.snoc (x:=(lv,nd)) he ho HE.out
   have s0:=Jaa hs2 0;have s1:=Jaa hs2 1;have p0:=Jaa hk2 0;clear hx he hE hEe hoke hSr hy hb hkr hb2 hk2 hs2 hS2 hW2 HO HB HE;go_upto_region 5 with fail
   rw [←HW2.out];clear q0 q1 HW2;go_wp2_with fail
   refine HAT.out.mono ?_;rintro en w3 ⟨rfl,hb3⟩;have hk3:=(hb3.block _ (lt_of_some HK2.out)).trans HK2.out;have p1:=Jaa hk3 1;have HLk:=hid (Jpt y.1 nd E e s w3 (HBy.out.later hb3) HEe.out HOe.out.1 HOe.out.2);have HOy:=hid (ownL HOx.out hb3);have HBy3:=hid (HBx.out.trans (hb3.mono HBx.out.size));have HK3:=hid hk3;clear hb3 hk3 s0 s1 p0 HAT HOx HBx HBy HK2;go_wp2_with fail
   refine HLk.out.mono ?_;rintro en w4 ⟨hen,hb4⟩;have hk4:=(hb4.block _ (lt_of_some HK3.out)).trans HK3.out;have p0:=Jaa hk4 0;have HO4:=hid (ownL HOy.out hb4);have HB4:=hid (HBy3.out.trans (hb4.mono HBy3.out.size));clear hb4 hk4 p1 HLk HOy HBy3 HK3;rcases hen with⟨i,id,h1,h2,rfl⟩ |⟨rfl,hno⟩
   ·have HE1:=hid (HNx.out (some id) (.inl ⟨i,id,h1,h2,rfl⟩))
    obtain⟨Wc,hWc⟩:=words.nm (w4.alloc (.cells #[.int .i64 (lv:Int),.int .i64 (id:Int)] 242));have hbc:Below w4.heap.size w4 Wc:=words.b1 hWc;have HNc:Hid (∀(i:Nat) (u:Value),([.int .i64 (lv:Int),.int .i64 (id:Int)]:List Value)[i]?=some u→Wc.cell? ((⟨w4.heap.size,0,none⟩:Addr).add i)=some u):=hid fun i u hi=>by rw [hWc,Jfp];simpa using hi
    have HOc:=hid (ownL HO4.out hbc);have HBc:=hid (HB4.out.trans (hbc.mono HB4.out.size));have HWc:=hid hWc.symm;clear hWc hbc HO4 HB4 h1 h2;go_wp2_with (at_builtin;rw [HWc.out];refine wpList_append_own _ rfl (.tmp 34) (.tmp 39) 244 rfl W1.heap.size 242 iS _ 2 16 underlying244 hiS zS0 zS1 zS2 rfl (by omega) (.slice Ar Q.length cr) Q.length (Q.flatMap spC) rfl HOc.out ⟨w4.heap.size,0,none⟩ 1 1 [.int .i64 (lv:Int),.int .i64 (id:Int)] rfl rfl HNc.out (by simp [Value.oneCell']) (by simp only [maxLen];omega) (by omega) HBc.out.size ?_;intro v3' wq hownq hgrowq hnilq)
    have HBq:=hid (keep_grown HBc.out HOc.out hgrowq (Nat.le_refl _) (Nat.le_refl _));have HOq:Hid (wq.ownsRow W1.heap.size 242 2 v3' (Q++[(lv,id)]).length ((Q++[(lv,id)]).flatMap spC)):=hid (by rw [List.length_append,List.flatMap_append];exact hownq);clear hownq hgrowq hnilq;go_roundw
    case rel=>exact⟨k+1,Q++[(lv,id)],by go_num,by omega,by rw [List.length_append];exact Nat.succ_le_succ hq,HE1,HOq,HBq⟩
    case measure=>simp [intOf];omega
   ·have HE1:Hid (EntsOf Es s (P.take (k+1)) Q):=hid (by have:=HNx.out none (.inr ⟨rfl,hno⟩);simpa using this)
    clear hno;go_wp2_with fail
    go_roundw
    case rel=>exact⟨k+1,Q,by go_num,by omega,by omega,HE1,HO4,HB4⟩
    case measure=>simp [intOf];omega
  ·obtain rfl:k=P.length:=by omega
   have HF:Hid (∃Q',EntsOf Es s P Q'∧Q'.length≤P.length∧PlcOut Q' w (.returned (.slice Ar Q.length cr)) wr):=hid ⟨Q,by have:=HE.out;rwa [List.take_length] at this,hq,Ar,cr,rfl,Jwp HO.out,hcr,fun b off e=>Nat.le_trans HB1.out.size (World.ownsRow.lt HO.out b (by rw [e];rfl)).1,HB1.out.trans (HB.out.mono HB1.out.size)⟩;clear HE HO HB;go_wp2_with fail
   go_ret
   exact HF.out

theorem EntsOf.all {Es:List (List Ent)} {s:ByteArray} (hids:∀E∈Es,∀e∈E,∀(i:Nat) id,e.ids[i]?=some id→∃e',E[id]?=some e'):∀{P Q:List (Nat×Nat)},EntsOf Es s P Q→∀x∈Q,∃e,entAt Es x=some e
 |[],Q,h,x,hx=>by
  have h':Q=[]:=h;subst h';cases hx
 |y::P,Q,⟨e',o',Q',h1,h2,h3,h4⟩,x,hx=>by
  rw [h3] at hx;rcases List.mem_append.1 hx with hx |hx
  ·rcases h2 with⟨i,id,_,h6,rfl⟩ |⟨rfl,_⟩
   ·obtain rfl:x=(y.1,id):=by simpa using hx
    unfold entAt at h1 ⊢;obtain⟨E,k1,k2⟩:=Option.bind_eq_some_iff.1 h1;obtain⟨e2,k3⟩:=hids E (List.mem_of_getElem? k1) e' (List.mem_of_getElem? k2) i id h6;exact⟨e2,by rw [k1];exact k3⟩
   ·simp at hx
  ·exact EntsOf.all hids h4 x hx
end Go.Proofs.YtekekhgjobahaaaGreatDoor.seen

namespace Go.Proofs.YtekekhgjobahaaaGreatDoor.stk
open Go.RowKit words ext name tre

end Go.Proofs.YtekekhgjobahaaaGreatDoor.stk

namespace Go.Proofs.YtekekhgjobahaaaGreatDoor.stk
open Go.RowKit words ext name tre

end Go.Proofs.YtekekhgjobahaaaGreatDoor.stk

namespace Go.Proofs.YtekekhgjobahaaaGreatDoor.seen
open Go.RowKit words ext name tre stk

end Go.Proofs.YtekekhgjobahaaaGreatDoor.seen

namespace Go.Proofs.YtekekhgjobahaaaGreatDoor.seen
open Go.RowKit words ext name tre stk


def Has (x:Nd) (s:ByteArray) (o:Option Nd):Prop:=(∃(i:Nat) (y:Nd),x.N[i]?=some s∧x.I[i]?=some y∧o=some y)∨(o=none∧∀j:Nat,x.N[j]?≠some s)
def EntN (s:ByteArray):List Nd→List Nd→Prop
 |[],Q=>Q=[]
 |x::T,Q=>∃o Q',Has x s o∧Q=o.toList++Q'∧EntN s T Q'
theorem EntN.snoc {s:ByteArray} {x:Nd} {o:Option Nd} (hl:Has x s o):∀{T Q:List Nd},EntN s T Q→EntN s (T++[x]) (Q++o.toList)
 |[],Q,h=>by
  have h':Q=[]:=h;subst h';exact⟨o,[],hl,by simp,rfl⟩
 |y::T,Q,⟨o',Q',h1,h2,h3⟩=>⟨o',_,h1,by rw [h2,List.append_assoc],EntN.snoc hl h3⟩


mutual
theorem Jmm:∀(n x:Nd) (k:Nat),(preN n)[k]?=some x→∃M,(preN n).drop k=preN x++M
 | .mk K O N I S E T,x,k,h=>by
  rcases k with _ |k
  ·rw [Jgv] at h
   obtain rfl:Nd.mk K O N I S E T=x:=by simpa using h
   exact⟨[],by rw [List.drop_zero,List.append_nil]⟩
  ·rw [Jgv] at h ⊢
   rw [List.drop_succ_cons];exact Jne I x k (by rw [List.getElem?_cons_succ] at h;exact h)
theorem Jne:∀(L:List Nd) (x:Nd) (k:Nat),(preL L)[k]?=some x→∃M,(preL L).drop k=preN x++M
 |[],x,k,h=>by rw [Jd0] at h;simp at h
 |y::L,x,k,h=>by
  rw [Jbf] at h ⊢;by_cases hk:k<(preN y).length
  ·rw [List.getElem?_append_left hk] at h
   obtain⟨M,hM⟩:=Jmm y x k h;exact⟨M++preL L,by rw [List.drop_append_of_le_length (Nat.le_of_lt hk),hM,List.append_assoc]⟩
  ·rw [List.getElem?_append_right (by omega)] at h
   obtain⟨M,hM⟩:=Jne L x _ h;refine⟨M,?_⟩;rw [List.drop_append,List.drop_eq_nil_of_le (by omega),List.nil_append,hM]
end
theorem Jpo:∀{L:List Nd} {i:Nat} {y:Nd},L[i]?=some y→(preL L)[countL (L.take i)]?=some y
 |[],i,y,h=>by simp at h
 |x::L,0,y,h=>by
  obtain rfl:x=y:=by simpa using h
  rw [List.take_zero,Jaj,Jbf,Jgv];rfl
 |x::L,i+1,y,h=>by
  rw [List.take_succ_cons,Jaf,Jbf,List.getElem?_append_right (by rw [Jb8];omega),Jb8,Nat.add_sub_cancel_left];exact Jpo (by simpa using h)
theorem Juy {n x y:Nd} {k i:Nat} (hx:(preN n)[k]?=some x) (hy:x.I[i]?=some y):(preN n)[k+1+countL (x.I.take i)]?=some y:=by
 obtain⟨M,hM⟩:=Jmm n x k hx;have h1:=Jpo hy;have h2:((preN n).drop k)[1+countL (x.I.take i)]?=some y:=by
  have hlt:countL (x.I.take i)<(preL x.I).length:=(List.getElem?_eq_some_iff.1 h1).1;rw [hM,Jgv,Nat.add_comm,List.cons_append,List.getElem?_cons_succ,List.getElem?_append_left hlt];exact h1
 rw [List.getElem?_drop] at h2;rw [←h2];congr 1;omega
def At (R:List Nd) (x:Nat×Nat) (d:Nd):Prop:=∃t,R[x.1]?=some t∧(preN t)[x.2]?=some d
def tabs (R:List Nd):List (List Ent):=R.map (flatN 0)
theorem Jwr {R:List Nd} {i:Nat} {t:Nd} (h:R[i]?=some t):(tabs R)[i]?=some (flatN 0 t):=by unfold tabs;rw [List.getElem?_map,h];rfl
theorem At.ent {R:List Nd} {x:Nat×Nat} {d:Nd} (h:At R x d):entAt (tabs R) x=some (entOf x.2 d):=by
 obtain⟨t,h1,h2⟩:=h;unfold entAt;rw [Jwr h1];exact Jxl h2
theorem At.one {R:List Nd} {x:Nat×Nat} {d:Nd} (h:At R x d) (hall:∀t∈R,allB t=true):oneB d=true:=by
 obtain⟨t,h1,h2⟩:=h;exact Jia ((Jqy t d (List.mem_of_getElem? h2)).2.2 (hall t (List.mem_of_getElem? h1)))
def Ats (R:List Nd):List (Nat×Nat)→List Nd→Prop
 |[],[]=>True
 |x::P,d::D=>At R x d∧Ats R P D
 |_,_=>False
theorem Ats.length {R:List Nd}:∀{P:List (Nat×Nat)} {D:List Nd},Ats R P D→P.length=D.length
 |[],[],_=>rfl
 |x::P,d::D,h=>by rw [List.length_cons,List.length_cons,h.2.length]
 |[],_::_,h=>h.elim
 |_::_,[],h=>h.elim
theorem Ats.at_ {R:List Nd}:∀{P:List (Nat×Nat)} {D:List Nd},Ats R P D→∀{i:Nat} {x:Nat×Nat},P[i]?=some x→∃d,D[i]?=some d∧At R x d
 |[],[],_,i,x,hx=>by simp at hx
 |y::P,d::D,h,0,x,hx=>by
  obtain rfl:y=x:=by simpa using hx
  exact⟨d,rfl,h.1⟩
 |y::P,d::D,h,i+1,x,hx=>by
  obtain⟨d',h1,h2⟩:=h.2.at_ (i:=i) (by simpa using hx);exact⟨d',by simpa using h1,h2⟩
 |[],_::_,h,_,_,_=>h.elim
 |_::_,[],h,_,_,_=>h.elim
theorem Ats.take {R:List Nd}:∀{P:List (Nat×Nat)} {D:List Nd},Ats R P D→∀n:Nat,Ats R (P.take n) (D.take n)
 |[],[],_,n=>by rw [List.take_nil,List.take_nil];trivial
 |y::P,d::D,h,0=>by rw [List.take_zero,List.take_zero];trivial
 |y::P,d::D,h,n+1=>by rw [List.take_succ_cons,List.take_succ_cons];exact⟨h.1,h.2.take n⟩
 |[],_::_,h,_=>h.elim
 |_::_,[],h,_=>h.elim
theorem Ats.all {R:List Nd} {P:List (Nat×Nat)} {D:List Nd} (h:Ats R P D):∀x∈P,∃e,entAt (tabs R) x=some e:=fun x hx=>by
 obtain⟨i,hi⟩:=List.mem_iff_getElem?.1 hx;obtain⟨d,_,h2⟩:=h.at_ hi;exact⟨_,h2.ent⟩
theorem Ats.mem {R:List Nd}:∀{P:List (Nat×Nat)} {D:List Nd},Ats R P D→∀d∈D,∃x∈P,At R x d
 |[],[],_,d,hd=>by cases hd
 |y::P,c::D,h,d,hd=>by
  rcases List.mem_cons.1 hd with rfl |hd
  ·exact⟨y,List.mem_cons_self ..,h.1⟩
  ·obtain⟨x,hx,ha⟩:=h.2.mem d hd
   exact⟨x,List.mem_cons_of_mem _ hx,ha⟩
 |[],_::_,h,_,_=>h.elim
 |_::_,[],h,_,_=>h.elim
def Top (P:List (Nat×Nat)) (D:List Nd) (s:ByteArray) (x:Nat×Nat):Prop:=
 ∃(k:Nat) (p:Nat×Nat) (y:Nd) (i:Nat),P[k]?=some p∧x=(p.1,p.2+1+countL (y.I.take i))∧D[k]?=some y∧y.N[i]?=some s∧∀z∈D.take k,∀j:Nat,z.N[j]?≠some s
theorem join {R:List Nd} {s:ByteArray} (hall:∀t∈R,allB t=true):∀{P:List (Nat×Nat)} {D:List Nd} {Q:List (Nat×Nat)} {Q':List Nd},Ats R P D→EntsOf (tabs R) s P Q→EntN s D Q'→
  Ats R Q Q'∧(Q.map Prod.fst).Sublist (P.map Prod.fst)∧(∀q∈Q',∃d∈D,∃i:Nat,d.I[i]?=some q∧d.N[i]?=some s)∧(∀x,Q[0]?=some x→Top P D s x)
 |[],[],Q,Q',_,h1,h2=>by
  have h1':Q=[]:=h1;have h2':Q'=[]:=h2;subst h1' h2';exact⟨trivial,List.Sublist.refl _,fun q hq=>(by cases hq),fun x hx=>(by simp at hx)⟩
 |y::P,d::D,Q,Q',h,⟨e,o,Q1,he,hl,hQ,hr⟩,⟨o',Q1',hh,hQ',hr'⟩=>by
  obtain⟨i1,i2,i3,i4⟩:=join hall h.2 hr hr';have hent:=h.1.ent;rw [he] at hent;obtain rfl:=Option.some.inj hent;have hN:(entOf y.2 d).x.N=d.N:=Jwk d;have h1:=Jki (h.1.one hall);unfold Lk at hl;rw [hN] at hl;subst hQ hQ';rcases hl with⟨i,id,a1,a2,rfl⟩ |⟨rfl,a1⟩
  ·rcases hh with⟨i',z,b1,b2,rfl⟩ |⟨rfl,b1⟩
   ·obtain rfl:=h1.1.one a1 b1
    have hlt:i<d.I.length:=(List.getElem?_eq_some_iff.1 b2).1;have h2:(entOf y.2 d).ids[i]?=some (y.2+1+countL (d.I.take i)):=Ji0 hlt;rw [h2] at a2;obtain rfl:=Option.some.inj a2;obtain⟨t,c1,c2⟩:=h.1;refine⟨⟨⟨t,c1,Juy c2 b2⟩,i1⟩,?_,fun q hq=>?_,fun x hx=>?_⟩
    ·simpa using i2
    ·have hq':q=z∨q∈Q1':=by simpa using hq
     rcases hq' with rfl |hq'
     ·exact⟨d,List.mem_cons_self ..,i,b2,b1⟩
     ·obtain⟨d',e1,e2⟩:=i3 q hq'
      exact⟨d',List.mem_cons_of_mem _ e1,e2⟩
    ·have hx':(y.1,y.2+1+countL (d.I.take i))=x:=by simpa using hx
     subst hx';exact⟨0,y,d,i,rfl,rfl,rfl,b1,fun z hz=>by simp at hz⟩
   ·exact (b1 i a1).elim
  ·rcases hh with⟨i',z,b1,b2,rfl⟩ |⟨rfl,b1⟩
   ·exact (a1 i' b1).elim
   ·refine⟨i1,?_,fun q hq=>?_,fun x hx=>?_⟩
    ·exact List.Sublist.cons _ i2
    ·obtain⟨d',e1,e2⟩:=i3 q (by simpa using hq)
     exact⟨d',List.mem_cons_of_mem _ e1,e2⟩
    ·obtain⟨k,p,z,i,g1,g2,g3,g4,g5⟩:=i4 x (by simpa using hx)
     refine⟨k+1,p,z,i,by simpa using g1,g2,by simpa using g3,g4,fun c hc=>?_⟩;rw [List.take_succ_cons] at hc;rcases List.mem_cons.1 hc with rfl |hc
     ·exact b1
     ·exact g5 c hc
 |[],_::_,_,_,h,_,_=>h.elim
 |_::_,[],_,_,h,_,_=>h.elim
theorem EntN.some {s:ByteArray}:∀{D:List Nd},(∀d∈D,d.N.length=d.I.length)→∃Q,EntN s D Q
 |[],_=>⟨[],rfl⟩
 |d::D,hl=>by
  obtain⟨Q,hQ⟩:=EntN.some (s:=s) (D:=D) fun c hc=>hl c (List.mem_cons_of_mem _ hc);by_cases h:∃i:Nat,d.N[i]?=Option.some s
  ·obtain⟨i,hi⟩:=h
   have hlt:i<d.I.length:=by rw [←hl d (List.mem_cons_self ..)];exact (List.getElem?_eq_some_iff.1 hi).1
   exact⟨_,Option.some d.I[i],Q,.inl ⟨i,_,hi,List.getElem?_eq_getElem hlt,rfl⟩,rfl,hQ⟩
  ·exact⟨_,none,Q,.inr ⟨rfl,fun j hj=>h ⟨j,hj⟩⟩,rfl,hQ⟩

theorem Ats.right {R:List Nd} {P:List (Nat×Nat)} {D:List Nd} (h:Ats R P D) (hall:∀t∈R,allB t=true):∀d∈D,Asc d.N∧d.N.length=d.I.length:=fun d hd=>by
 obtain⟨x,_,hx⟩:=h.mem d hd;obtain⟨h1,h2,_⟩:=Jki (hx.one hall);exact⟨h1,h2⟩
theorem EntN.len {s:ByteArray}:∀{D Q:List Nd},EntN s D Q→Q.length≤D.length
 |[],Q,h=>by
  have h':Q=[]:=h;subst h';exact Nat.le_refl _
 |c::D,Q,⟨o,Q1,hh,hq,hr⟩=>by
  have:=EntN.len hr;subst hq;rw [List.length_append,List.length_cons];rcases o with _ |o<;>simp<;>omega

def mayB (T:List Nd):Bool:=decide (T.length≤8)&&T.all fun t=>smallB t&&treeB t
theorem Juc {T:List Nd} (h:mayB T=true):T.length≤8:=by
 unfold mayB at h;simp only [Bool.and_eq_true,decide_eq_true_eq] at h;exact h.1
theorem Jtq {T:List Nd} (h:mayB T=true):∀t∈T,smallB t=true∧treeB t=true:=fun t ht=>by
 unfold mayB at h;simp only [Bool.and_eq_true,decide_eq_true_eq,List.all_eq_true] at h;exact h.2 t ht
theorem Jvl {T:List Nd} (h1:T.length≤8) (h2:∀t∈T,smallB t=true∧treeB t=true):mayB T=true:=by
 unfold mayB;simp only [Bool.and_eq_true,decide_eq_true_eq,List.all_eq_true];exact⟨h1,h2⟩
theorem Jr6 {T:List Nd} (h:8<T.length):mayB T=false:=by
 rcases hm:mayB T with _ |_
 ·rfl
 ·have:=Juc hm
  omega
theorem Jp0 {T:List Nd} {t:Nd} (ht:t∈T) (h:smallB t=false∨treeB t=false):mayB T=false:=by
 rcases hm:mayB T with _ |_
 ·rfl
 ·obtain⟨h1,h2⟩:=Jtq hm t ht
  rcases h with h |h
  ·rw [h1] at h;cases h
  ·rw [h2] at h;cases h
def mayI (T:List Nd):Int:=if mayB T=true then 1 else 0
theorem mayI_yes {T:List Nd} (h:mayB T=true):mayI T=1:=if_pos h
theorem mayI_no {T:List Nd} (h:mayB T=false):mayI T=0:=by unfold mayI;rw [h];rfl
theorem Jt4 {T:List Nd} {k:Nat} {t:Nd} {p:Nd→Prop} (h:∀s∈T.take k,p s) (ht:T[k]?=some t) (hp:p t):∀s∈T.take (k+1),p s:=fun s hs=>by
 obtain⟨hk,htt⟩:=List.getElem?_eq_some_iff.1 ht;rw [List.take_succ_eq_append_getElem hk,htt] at hs;rcases List.mem_append.1 hs with hs |hs
 ·exact h s hs
 ·obtain rfl:s=t:=by simpa using hs
  exact hp
theorem may_any (A:Option Addr) (c:Nat) (T:List Nd) (rs:Nat→Raw) (w:World) (hT:Trees w w.heap.size A T rs):
  Calls prog 6 #[.slice A T.length c] w fun e w'=>e= .returned (.int .i64 (mayI T))∧Below w.heap.size w w':=by
 have HT:=hid hT;clear hT;go_enter func6,ntmps6
 by_cases hn:8<T.length
 ·have g:(8:Int)<(T.length:Int):=by omega
  go_wp2_with fail
  go_ret
  exact⟨by rw [mayI_no (Jr6 hn)];rfl,Below.refl _ _⟩
 ·have g:¬(8:Int)<(T.length:Int):=by omega
  go_wp2_with fail
  go_loopw [10] (fun v wr=>∃k:Nat,v= .int .i64 (k:Int)∧k≤T.length∧Hid (∀t∈T.take k,smallB t=true∧treeB t=true)∧Hid (Below w.heap.size w wr)) (fun v _=>T.length - (intOf v).toNat)
  case atStart=>exact⟨0,rfl,Nat.zero_le _,hid (fun t ht=>by simp at ht),hid (Below.refl _ _)⟩
  case round=>
   obtain⟨k,rfl,hk,HSm,HB⟩:=hrel;by_cases hlt:k<T.length
   ·obtain⟨t,ht⟩:∃t,T[k]?=some t:=⟨_,List.getElem?_eq_getElem hlt⟩
    obtain⟨⟨b,off,hA,hb,hcl⟩,hN⟩:=(HT.out.keep HB.out) k t ht;obtain⟨rx,hrx⟩:=words.nm (rs k);rw [←hrx] at hcl hN;subst hA;have c0:wr.cell? ⟨b,off+k*7,none⟩=some (.int .i64 t.K):=hcl 0 _ rfl;have c1':wr.cell? ⟨b,off+k*7+1,none⟩=some (.bool t.O):=hcl 1 _ rfl;have c2:wr.cell? ⟨b,off+k*7+2,none⟩=some (.slice rx.An t.N.length rx.cn):=hcl 2 _ rfl;have c3:wr.cell? ⟨b,off+k*7+3,none⟩=some (.slice rx.Ai t.I.length rx.ci):=hcl 3 _ rfl;have c4:wr.cell? ⟨b,off+k*7+4,none⟩=some (.int .i64 t.S):=hcl 4 _ rfl;have c5:wr.cell? ⟨b,off+k*7+5,none⟩=some (.slice rx.Ae t.E.length rx.ce):=hcl 5 _ rfl;have c6:wr.cell? ⟨b,off+k*7+6,none⟩=some (.string t.T):=hcl 6 _ rfl;have i0:(0:Int)≤(k:Int):=by omega
    have i1:(k:Int)<(T.length:Int):=by omega
    obtain⟨W2,hW2⟩:=words.nm (wr.alloc (.cells (rawCells t rx) 46));have hb2:Below wr.heap.size wr W2:=words.b1 hW2;have hx2:Box W2 wr.heap.size t rx:=by rw [hW2];exact Box.new wr t rx
    have HN2:=hid ((hN.more HB.out.size).later hb2);have HX2:=hid hx2;have HB2:=hid (HB.out.trans (hb2.mono HB.out.size));have HTm:=hid hN.tame;have Ht:=hid ht;unfold rawCells at hW2;have HW2:=hid hW2;clear hcl hN hb2 hx2 ht hW2 hrx;go_upto_region 6 with fail
    rw [←HW2.out];clear c0 c1' c2 c3 c4 c5 c6;obtain⟨b0,b1,b2,b3,b4,b5,b6⟩:=HX2.out.cells;rcases hsm:smallB t with _ |_
    ·have hs:=Jnt 0 t rx W2 HN2.out (by rw [hsm];rfl)
     unfold ndV rawCells at hs;have HS:=hid hs;have HNo:=hid (Jp0 (List.mem_of_getElem? Ht.out) (.inl hsm));clear hs hsm;go_wp2_with fail
     refine HS.out.mono ?_;rintro e w3 ⟨rfl,hb3⟩;have HB3:=hid (HB2.out.trans (hb3.mono HB2.out.size));clear hb3 HS;go_wp2_with fail
     go_ret
     exact⟨by rw [mayI_no HNo.out];rfl,HB3.out⟩
    ·have hs:=Jnt 1 t rx W2 HN2.out (by rw [hsm];rfl)
     unfold ndV rawCells at hs;have HS:=hid hs;have Hsm:=hid hsm;clear hs hsm;go_wp2_with fail
     refine HS.out.mono ?_;rintro e w3 ⟨rfl,hb3⟩;have HX3:=hid (HX2.out.below hb3);have hdp:=Jfc Hsm.out;have hR:=Jb9 t rx w3 (HN2.out.later hb3) (by omega);rw [←Jj7 Hsm.out HTm.out] at hR;unfold ndV rawCells at hR;have HB3:=hid (HB2.out.trans (hb3.mono HB2.out.size));clear b0 b1 b2 b3 b4 b5 b6;obtain⟨b0,b1,b2,b3,b4,b5,b6⟩:=HX3.out.cells;have HR:=hid hR;clear hb3 hR HS;rcases htr:treeB t with _ |_
     ·rw [htr] at HR
      have HNo:=hid (Jp0 (List.mem_of_getElem? Ht.out) (.inr htr));clear htr;go_wp2_with fail
      refine HR.out.mono ?_;rintro e w4 ⟨rfl,hb4⟩;have HB4:=hid (HB3.out.trans (hb4.mono HB3.out.size));clear hb4 HR;go_wp2_with fail
      go_ret
      exact⟨by rw [mayI_no HNo.out];rfl,HB4.out⟩
     ·rw [htr] at HR
      have HSm':=hid (Jt4 HSm.out Ht.out ⟨Hsm.out,htr⟩);clear htr;go_wp2_with fail
      refine HR.out.mono ?_;rintro e w4 ⟨rfl,hb4⟩;have HB4:=hid (HB3.out.trans (hb4.mono HB3.out.size));clear hb4 HR;go_wp2_with fail
      go_roundw
      case rel=>exact⟨k+1,by go_num,by omega,HSm',HB4⟩
      case measure=>simp [intOf];omega
   ·obtain rfl:k=T.length:=by omega
    have hsm:=HSm.out;rw [List.take_length] at hsm;have HYes:=hid (Jvl (by omega) hsm);go_wp2_with fail
    go_ret
    exact⟨by rw [mayI_yes HYes.out];rfl,HB.out⟩
end Go.Proofs.YtekekhgjobahaaaGreatDoor.seen
