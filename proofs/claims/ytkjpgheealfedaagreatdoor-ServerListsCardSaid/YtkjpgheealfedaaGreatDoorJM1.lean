import Derived.Test.YtkjpgheealfedaaGreatDoorJW3
import Derived.Test.YtkjpgheealfedaaGreatDoorJO
set_option maxHeartbeats 12800000
set_option maxRecDepth 100000
open Go.Proofs.Tryz
namespace Go.Proofs.YtkjpgheealfedaaGreatDoor.mrg
open Go.RowKit words ext name tre stk Go.Proofs.YtkjpgheealfedaaGreatDoor.seen

def NamesOwn (N:List ByteArray) (w:World) (en:Ending) (w':World):Prop:=∃A c,en= .returned (.slice A N.length c)∧N.length≤c∧c≤maxLen∧w'.ownsRow w.heap.size 9 1 (.slice A N.length c) N.length (N.map Value.string)∧Below w.heap.size w w'
theorem Jsj {w:World} {B size n c k:Nat} {E:TypeId} {A:Option Addr} {xs:List Value} (h:w.ownsRow B E size (.slice A n c) k xs):c≤maxLen:=by
 rcases h.2 with⟨h0,_⟩ |⟨g,cap,cur,h1,_,_,_,h4,_⟩
 ·injection h0 with _ _ h0
  rw [h0];exact Nat.zero_le _
 ·injection h1 with _ _ h1
  rw [h1];exact h4
theorem Jl0 (g k:Nat) (L:List Ent) (e:Ent) (w:World) (h:Brn w w.heap.size g L) (he:L[k]?=some e):
  Calls prog 135 #[.pointer (some ⟨g,0,none⟩),.int .i64 (k:Int)] w (NamesOwn e.x.N w):=by
 have H:=Lib.hid (Jce g k L e w h he);clear h he;go_enter func135,ntmps135
 go_wp2_with fail
 refine H.out.mono ?_;rintro en w1 ⟨r,A,c,rfl,hen,hb⟩;have hf1:∀w':World,Sem.run prog (Instr.field 200 (.agg #[.int .i64 e.x.K,.bool e.x.O,.slice r.An e.x.N.length r.cn,.slice r.Ai e.x.I.length r.ci,.int .i64 e.x.S,.slice r.Ae e.x.E.length r.ce,.string e.x.T,.slice A e.ids.length c]) 0) w'= .ok (.agg #[.int .i64 e.x.K,.bool e.x.O,.slice r.An e.x.N.length r.cn,.slice r.Ai e.x.I.length r.ci,.int .i64 e.x.S,.slice r.Ae e.x.E.length r.ce,.string e.x.T]) w':=fun w'=>Jcy _ _ _ _ _ w';have hf2:∀w':World,Sem.run prog (Instr.field 70 (.agg #[.int .i64 e.x.K,.bool e.x.O,.slice r.An e.x.N.length r.cn,.slice r.Ai e.x.I.length r.ci,.int .i64 e.x.S,.slice r.Ae e.x.E.length r.ce,.string e.x.T]) 2) w'= .ok (.slice r.An e.x.N.length r.cn) w':=fun _=>by kernel_rfl
 have HC:=Lib.hid ((Jg9 r.An e.x.N.length r.cn _ w1 (Jhp hen.nd.names) hen.nd.fit.zn hen.nd.fit.ln (by rw [List.length_map,Nat.mul_one]) (Jbt e.x.N)).mono fun _ _ h=>Jiy h);have HB:=Lib.hid hb;clear hb H hen;go_wp2_with fail
 refine HC.out.mono ?_;rintro en w2 ⟨A3,c3,rfl,h31,h32,ho3,hb2⟩;have HF:=Lib.hid (show NamesOwn e.x.N w (.returned (.slice A3 e.x.N.length c3)) w2 from⟨A3,c3,rfl,h31,Jsj ho3,tre.own_base ho3 HB.out.size,HB.out.trans (hb2.mono HB.out.size)⟩);clear ho3 hb2 h31 h32 HC HB;go_wp2_with fail
 go_ret
 exact HF.out
theorem Jl8 {R:List Nd} {lv nd:Nat} {d:Nd} (hA:seen.At R (lv,nd) d) (A:Option Addr) (c:Nat) (ad:Int) (L:List (Nat×Int)) (w:World) (h:StkM w A L (tabs R)):
  Calls prog 113 #[.agg #[.slice A L.length c,.int .i64 ad],.agg #[.int .i64 (lv:Int),.int .i64 (nd:Int)]] w (NamesOwn d.N w):=by
 obtain⟨Wa,hWa⟩:=words.nm (w.alloc (.cells #[.slice A L.length c,.int .i64 ad] 29));obtain⟨W1,hW1⟩:=words.nm (Wa.alloc (.cells #[.int .i64 (lv:Int),.int .i64 (nd:Int)] 33));have hz:Wa.heap.size=w.heap.size+1:=by rw [hWa];simp
 have hba:=words.b1 hWa;have hba1:Below Wa.heap.size Wa W1:=words.b1 hW1;have hb1:=hba.trans (hba1.mono hba.size);have hs0:Wa.heap[w.heap.size]?=some (.cells #[.slice A L.length c,.int .i64 ad] 29 (0,0)):=by rw [hWa];exact heap_alloc_new w _
 have HKa:=Lib.hid ((hba1.block _ (lt_of_some hs0)).trans hs0);have HKb:=Lib.hid (show W1.heap[w.heap.size+1]?=some (.cells #[.int .i64 (lv:Int),.int .i64 (nd:Int)] 33 (0,0)) by rw [←hz,hW1];exact heap_alloc_new Wa _);have hS1:=h.later hb1;obtain⟨t,ht,htd⟩:=hA;have hE:=Jem ht;have hEe:(flatN 0 t)[nd]?=some (entOf nd d):=Jcs htd;obtain⟨y,hy⟩:∃y,L[lv]?=some y:=⟨_,List.getElem?_eq_getElem (by rw [←hS1.es];exact (List.getElem?_eq_some_iff.1 hE).1)⟩
 have HAT:=Lib.hid (show Calls prog 67 #[.agg #[.slice A L.length c,.int .i64 ad],.int .i64 (lv:Int)] W1 fun e w''=>e= .returned (.pointer (some ⟨y.1,0,none⟩))∧Below W1.heap.size W1 w'' from Jda A L.length c lv ad L y W1 hS1.rows rfl hy);have hbr:Brn W1 W1.heap.size y.1 (flatN 0 t):=hS1.brs lv y _ hy hE;have HNm:Hid (∀w':World,Below W1.heap.size W1 w'→Calls prog 135 #[.pointer (some ⟨y.1,0,none⟩),.int .i64 (nd:Int)] w' (NamesOwn d.N w')):=Lib.hid fun w' hb=>by
  have h1:=Jl0 y.1 nd _ _ w' (hbr.later hb) hEe;rw [show (entOf nd d).x.N=d.N from Jhh d] at h1;exact h1
 rw [hWa] at hW1;have HW1:=Lib.hid hW1;have HB1:=Lib.hid hb1;have HZ:=Lib.hid hz;clear hWa hW1 hz hba hba1 hb1 hs0 hS1 ht htd hE hEe hy hbr h;go_enter func113,ntmps113
 go_upto_region 1 with fail
 rw [←HW1.out];clear HW1;have s0:=Jaa HKa.out 0;have s1:=Jaa HKa.out 1;have p0:=Jaa HKb.out 0;go_wp2_with fail
 refine HAT.out.mono ?_;rintro e w2 ⟨rfl,hb2⟩;have p1:w2.cell? ⟨w.heap.size+1,1,none⟩=some (.int .i64 (nd:Int)):=Jaa ((hb2.block _ (lt_of_some HKb.out)).trans HKb.out) 1;have HB2:=Lib.hid (HB1.out.trans (hb2.mono HB1.out.size));have HC:=Lib.hid (HNm.out w2 hb2);clear hb2 HAT HNm s0 s1 p0;go_wp2_with fail
 refine HC.out.mono ?_;rintro e w3 ⟨A3,c3,rfl,h1,h2,h3,hb3⟩;have HF:=Lib.hid (show NamesOwn d.N w (.returned (.slice A3 d.N.length c3)) w3 from⟨A3,c3,rfl,h1,h2,tre.own_base h3 HB2.out.size,HB2.out.trans (hb3.mono HB2.out.size)⟩);clear h1 h2 h3 hb3 HC p1;go_wp2_with fail
 go_ret
 exact HF.out
theorem Joe {R:List Nd} (hall:∀t∈R,allB t=true) {lv nd i:Nat} {d y:Nd} {s:ByteArray} (hA:seen.At R (lv,nd) d) (hi:d.N[i]?=some s) (hyi:d.I[i]?=some y) (A:Option Addr) (c:Nat) (ad:Int) (L:List (Nat×Int)) (w:World) (h:StkM w A L (tabs R)):
  Calls prog 116 #[.agg #[.slice A L.length c,.int .i64 ad],.agg #[.int .i64 (lv:Int),.int .i64 (nd:Int)],.string s] w fun e w'=>e= .returned (.int .i64 y.K)∧Below w.heap.size w w':=by
 obtain⟨Wa,hWa⟩:=words.nm (w.alloc (.cells #[.slice A L.length c,.int .i64 ad] 29));obtain⟨W1,hW1⟩:=words.nm (Wa.alloc (.cells #[.int .i64 (lv:Int),.int .i64 (nd:Int)] 33));have hz:Wa.heap.size=w.heap.size+1:=by rw [hWa];simp
 have hba:=words.b1 hWa;have hba1:Below Wa.heap.size Wa W1:=words.b1 hW1;have hb1:=hba.trans (hba1.mono hba.size);have hs0:Wa.heap[w.heap.size]?=some (.cells #[.slice A L.length c,.int .i64 ad] 29 (0,0)):=by rw [hWa];exact heap_alloc_new w _
 have HKa:=Lib.hid ((hba1.block _ (lt_of_some hs0)).trans hs0);have HKb:=Lib.hid (show W1.heap[w.heap.size+1]?=some (.cells #[.int .i64 (lv:Int),.int .i64 (nd:Int)] 33 (0,0)) by rw [←hz,hW1];exact heap_alloc_new Wa _);have hS1:=h.later hb1;have hone:=hA.one hall;obtain⟨t,ht,htd⟩:=hA;have hE:=Jem ht;obtain⟨b,hb⟩:∃b,L[lv]?=some b:=⟨_,List.getElem?_eq_getElem (by rw [←hS1.es];exact (List.getElem?_eq_some_iff.1 hE).1)⟩
 have HAT:=Lib.hid (show Calls prog 67 #[.agg #[.slice A L.length c,.int .i64 ad],.int .i64 (lv:Int)] W1 fun e w''=>e= .returned (.pointer (some ⟨b.1,0,none⟩))∧Below W1.heap.size W1 w'' from Jda A L.length c lv ad L b W1 hS1.rows rfl hb);have hbr:Brn W1 W1.heap.size b.1 (flatN 0 t):=hS1.brs lv b _ hb hE;have HLk:Hid (∀w':World,Below W1.heap.size W1 w'→Calls prog 98 #[.pointer (some ⟨b.1,0,none⟩),.int .i64 (nd:Int),.string s] w' fun e w''=>e= .returned (.tuple #[.int .i64 ((nd+1+countL (d.I.take i):Nat):Int),.bool true])∧Below w'.heap.size w' w''):=Lib.hid fun w' hb'=>by
  refine (Jmh b.1 nd t d s w' (hbr.later hb') htd hone).mono ?_;rintro e w'' ⟨⟨q,h1,_,h3⟩ |⟨_,h2⟩,h4⟩
  ·obtain rfl:=(Jbd hone).1.one hi h1
   exact⟨h3,h4⟩
  ·exact absurd hi (h2 i)
 have hk:=Jcs (Je6 htd hyi);obtain⟨id,hid⟩:=words.nm (nd+1+countL (d.I.take i));rw [←hid] at HLk hk;have HKd:Hid (∀w':World,Below W1.heap.size W1 w'→Calls prog 99 #[.pointer (some ⟨b.1,0,none⟩),.int .i64 (id:Int)] w' fun e w''=>e= .returned (.int .i64 y.K)∧Below w'.heap.size w' w''):=Lib.hid fun w' hb'=>
  (Jh5 b.1 id _ _ w' (hbr.later hb') hk).mono fun _ _ ⟨he,hw⟩=>⟨by rw [he,show (entOf id y).x.K=y.K from Jcg y],hw⟩
 rw [hWa] at hW1;have HW1:=Lib.hid hW1;have HB1:=Lib.hid hb1;clear hWa hW1 hz hba hba1 hb1 hs0 hS1 ht htd hE hb hbr h hk hid hone;go_enter func116,ntmps116
 go_upto_region 1 with fail
 rw [←HW1.out];clear HW1;have s0:=Jaa HKa.out 0;have s1:=Jaa HKa.out 1;have p0:=Jaa HKb.out 0;go_wp2_with fail
 refine HAT.out.mono ?_;rintro e w2 ⟨rfl,hb2⟩;have p1:w2.cell? ⟨w.heap.size+1,1,none⟩=some (.int .i64 (nd:Int)):=Jaa ((hb2.block _ (lt_of_some HKb.out)).trans HKb.out) 1;have HB2:=Lib.hid hb2;clear hb2 HAT s0 s1 p0;go_wp2_with fail
 refine (HLk.out w2 HB2.out).mono ?_;rintro e w3 ⟨rfl,hb3⟩;have HB3:=Lib.hid (HB2.out.trans (hb3.mono HB2.out.size));clear hb3 HLk p1;go_wp2_with fail
 refine (HKd.out w3 HB3.out).mono ?_;rintro e w4 ⟨rfl,hb4⟩;have HF:=Lib.hid (HB1.out.trans ((HB3.out.trans (hb4.mono HB3.out.size)).mono HB1.out.size));clear hb4 HKd;go_wp2_with fail
 go_ret
 exact⟨rfl,HF.out⟩

def rowsOf (D:List Nd):List (List ByteArray):=D.map Nd.N
def enC (x:ByteArray×Int):List Value:=[.string x.1,.int .i64 x.2]
def Kinds (D:List Nd):List heap.It→List (ByteArray×Int)→Prop
 |[],E=>E=[]
 |x::F,E=>∃(d:Nd) (i:Nat) (y:Nd) (E':List (ByteArray×Int)),D[x.2]?=some d∧d.N[i]?=some x.1∧d.I[i]?=some y∧E=(if y.K=4 then [] else [(x.1,y.K)])++E'∧Kinds D F E'
theorem Kinds.snoc {D:List Nd} {x:heap.It} {d y:Nd} {i:Nat} (h1:D[x.2]?=some d) (h2:d.N[i]?=some x.1) (h3:d.I[i]?=some y):∀{F:List heap.It} {E:List (ByteArray×Int)},Kinds D F E→Kinds D (F++[x]) (E++(if y.K=4 then [] else [(x.1,y.K)]))
 |[],E,h=>by
  have h':E=[]:=h;subst h';exact⟨d,i,y,[],h1,h2,h3,by simp,rfl⟩
 |z::F,E,⟨d',i',y',E',q1,q2,q3,q4,q5⟩=>⟨d',i',y',_,q1,q2,q3,by rw [q4,List.append_assoc],Kinds.snoc h1 h2 h3 q5⟩
theorem Kinds.len {D:List Nd}:∀{F:List heap.It} {E:List (ByteArray×Int)},Kinds D F E→E.length≤F.length
 |[],E,h=>by
  have h':E=[]:=h;subst h';exact Nat.le_refl _
 |z::F,E,⟨_,_,_,E',_,_,_,q4,q5⟩=>by
  have:=Kinds.len q5;subst q4;rw [List.length_append,List.length_cons];split<;>simp<;>omega
def ListOut (D:List Nd) (w:World) (e:Ending) (w':World):Prop:=
 ∃out E A c,heap.Merged (rowsOf D) out∧Kinds D (heap.firsts out) E∧e= .returned (.slice A E.length c)∧w'.ownsRow w.heap.size 55 2 (.slice A E.length c) E.length (E.flatMap enC)∧Below w.heap.size w w'
structure Rs (w:World) (gb n:Nat) (D:List Nd) (k:Nat) (cs:List Value) (wr:World):Prop where
 blk:wr.heap[gb]?=some (.cells cs.toArray 47 (0,0))
 len:cs.length=n
 rows:∀(i:Nat) (d:Nd),i<k→D[i]?=some d→∃A c,cs[i]?=some (.slice A d.N.length c)∧d.N.length≤c∧c≤maxLen∧heap.Row wr wr.heap.size A d.N
 only:∀v∈cs,∃A n c,v= .slice A n c
theorem Rs.later {w:World} {gb n k:Nat} {D:List Nd} {cs:List Value} {wr w2:World} (h:Rs w gb n D k cs wr) (hb:Below wr.heap.size wr w2):Rs w gb n D k cs w2:=
 ⟨(hb.block _ (lt_of_some h.blk)).trans h.blk,h.len,fun i d h1 h2=>by
   obtain⟨A,c,q1,q2,q3,q4⟩:=h.rows i d h1 h2;exact⟨A,c,q1,q2,q3,(q4.keep hb).more hb.size⟩,h.only⟩
theorem Rs.next {w:World} {gb n k c:Nat} {D:List Nd} {cs:List Value} {wr:World} {d:Nd} {A:Option Addr} (h:Rs w gb n D k cs wr) (hk:k<n) (hd:D[k]?=some d) (h1:d.N.length≤c) (h2:c≤maxLen) (h3:heap.Row wr wr.heap.size A d.N):
  Rs w gb n D (k+1) (cs.set k (.slice A d.N.length c)) (wr.setCell ⟨gb,k,none⟩ (.slice A d.N.length c)):=by
 have hne:∀(A':Option Addr) (N:List ByteArray),heap.Row wr wr.heap.size A' N→heap.Row (wr.setCell ⟨gb,k,none⟩ (.slice A d.N.length c)) (wr.setCell ⟨gb,k,none⟩ (.slice A d.N.length c)).heap.size A' N:=fun A' N hr i s hs=>by
  obtain⟨b,off,e1,e2,e3⟩:=hr i s hs;have hb:b≠gb:=fun e=>by
   subst e;have h5:=Jaa h.blk (off+i);rw [e3] at h5;rw [List.getElem?_toArray] at h5;obtain⟨A2,n2,c2,h6⟩:=h.only _ (List.mem_of_getElem? h5.symm);cases h6
  refine⟨b,off,e1,by simpa using e2,?_⟩;exact (World.cell?_of_block (heap_setCell_other _ _ _ _ hb)).trans e3
 refine⟨?_,by rw [List.length_set];exact h.len,fun i d' hi hd'=>?_,fun v hv=>?_⟩
 ·have:=heap_setCell_same wr gb k _ _ (.slice A d.N.length c) h.blk
  rw [this];simp
 ·by_cases hik:i=k
  ·subst hik
   rw [hd] at hd';obtain rfl:=Option.some.inj hd';exact⟨A,c,by rw [List.getElem?_set_self (by rw [h.len];exact hk)],h1,h2,hne _ _ h3⟩
  ·obtain⟨A',c',q1,q2,q3,q4⟩:=h.rows i d' (by omega) hd'
   exact⟨A',c',by rw [List.getElem?_set_ne (Ne.symm hik)];exact q1,q2,q3,hne _ _ q4⟩
 ·rcases List.mem_or_eq_of_mem_set hv with hv |rfl
  ·exact h.only v hv
  ·exact⟨_,_,_,rfl⟩
theorem infoStrs:(Tryz.prog.info? 47).map (fun i=>(i.zero,i.size,i.bytes))=some (some (.slice none 0 0),1,24):=by kernel_rfl
theorem infoEntry:(Tryz.prog.info? 55).map (fun i=>(i.zero,i.size,i.bytes))=some (some (.agg #[.string ⟨#[]⟩,.int .i64 0]),2,24):=by kernel_rfl
theorem Js8 {N:List ByteArray} (h:Asc N):heap.Ris N:=List.pairwise_iff_getElem.2 fun i j hi hj hij=>h i j _ _ hij (List.getElem?_eq_getElem hi) (List.getElem?_eq_getElem hj)
theorem Jrb {K:Nat} (f:Nat→Nat):∀(L:List (List ByteArray)) (i:Nat),(∀l∈L,l.length≤K)→(heap.remF f i L).length≤L.length*K
 |[],i,_=>by simp [heap.remF]
 |l::L,i,h=>by
  have h1:=Jrb f L (i+1) fun x hx=>h x (List.mem_cons_of_mem _ hx);have h2:=h l (List.mem_cons_self ..);rw [heap.remF,List.length_append,List.length_map,List.length_drop,List.length_cons,Nat.succ_mul];omega
theorem tot_le {L:List (List ByteArray)} {K:Nat} (h:∀l∈L,l.length≤K):heap.tot L≤L.length*K:=Jrb _ L 0 h
theorem Joq {w:World} {B c:Nat} {A:Option Addr} {N:List ByteArray} (h:w.ownsRow B 9 1 (.slice A N.length c) N.length (N.map Value.string)):heap.Row w w.heap.size A N:=fun i s hs=>by
 obtain⟨g,cur,h1,_,h2,_,h3⟩:=tre.own_cell h (j:=i) (u:= .string s) (by rw [List.getElem?_map,hs];rfl);exact⟨g,0,h1,h2,by rw [Nat.zero_add];exact h3⟩
theorem Jpd:∀{F:List heap.It} {k:Nat} {x:heap.It},F[k]?=some x→∀j,j<2→(F.flatMap heap.itCells)[k*2+j]?=(heap.itCells x)[j]?
 |[],k,x,hk,_,_=>by simp at hk
 |y::F,k,x,hk,j,hj=>by
  rw [List.flatMap_cons];rcases k with _ |k
  ·obtain rfl:y=x:=by simpa using hk
   rw [List.getElem?_append_left (by simp [heap.itCells];omega),Nat.zero_mul,Nat.zero_add]
  ·rw [List.getElem?_append_right (by simp [heap.itCells];omega)]
   have hl:(heap.itCells y).length=2:=rfl;rw [hl,show (k+1)*2+j - 2=k*2+j by omega];exact Jpd (by simpa using hk) j hj
theorem Jki {w:World} {B c:Nat} {A:Option Addr} {F:List heap.It} (h:w.ownsRow B 218 2 (.slice A F.length c) F.length (F.flatMap heap.itCells)):heap.Itms w w.heap.size A F:=fun i x hx=>by
 obtain⟨g,_,e1,_,e2,_,e3⟩:=tre.own_cell h (j:=i*2+0) (u:= .string x.1) (by rw [Jpd hx 0 (by omega)];rfl);obtain⟨g',_,e4,_,_,_,e5⟩:=tre.own_cell h (j:=i*2+1) (u:= .int .i64 (x.2:Int)) (by rw [Jpd hx 1 (by omega)];rfl);rw [e1] at e4;injection e4 with e4;injection e4 with e4;subst e4;exact⟨g,0,e1,e2,by rw [Nat.zero_add];exact e3,by rw [Nat.zero_add];exact e5⟩
theorem Jn7 {out:List heap.It} {x:heap.It} (h:x∈heap.firsts out):x∈out:=(heap.firstF_names_mem (s:=x.1) (l:=out) (p:=none)).1 x h
theorem rows_len {D:List Nd}:(rowsOf D).length=D.length:=by unfold rowsOf;rw [List.length_map]
theorem rows_at {D:List Nd} {i:Nat} {l:List ByteArray} (h:(rowsOf D)[i]?=some l):∃d,D[i]?=some d∧l=d.N:=by
 unfold rowsOf at h;rw [List.getElem?_map] at h;obtain⟨d,h1,h2⟩:=Option.map_eq_some_iff.1 h;exact⟨d,h1,h2.symm⟩
theorem Jn0 (E:List (ByteArray×Int)):∀u∈E.flatMap enC,u.oneCell'=true:=fun u hu=>by
 obtain⟨x,_,hx⟩:=List.mem_flatMap.1 hu;simp only [enC,List.mem_cons,List.mem_nil_iff,or_false] at hx;rcases hx with rfl |rfl<;>rfl
theorem list_any {R:List Nd} (hall:∀t∈R,allB t=true) {P:List (Nat×Nat)} {D:List Nd} (hD:Ats R P D) (hct:∀d∈D,d.N.length≤4096)
  (A:Option Addr) (c:Nat) (ad:Int) (L:List (Nat×Int)) (Ap:Option Addr) (cp:Nat) (w:World) (h:StkM w A L (tabs R)) (hp:Plc w w.heap.size Ap P) (hlp:P.length≤64):
  Calls prog 80 #[.agg #[.slice A L.length c,.int .i64 ad],.slice Ap P.length cp] w (ListOut D w):=by
 obtain⟨iS,hiS,zS0,zS1,zS2⟩:=info_parts infoStrs;obtain⟨iE,hiE,zE0,zE1,zE2⟩:=info_parts infoEntry;have hmk:∀u:World,(Instr.makeSlice 212 (.int .i64 (P.length:Int)) (.int .i64 (P.length:Int))).run prog u=
   .ok (.slice (some ⟨u.heap.size,0,none⟩) P.length P.length) (u.alloc (.cells (madeCells #[.slice none 0 0] P.length) 47)):=fun u=>by
  have h:=run_make (P:=prog) u 212 47 iS (.slice none 0 0) underlying212 hiS zS0 .i64 .i64 (P.length:Int) (P.length:Int) (by omega) (Int.le_refl _) (by rw [zS2];omega) (by omega);simpa [zS1,Value.cells] using h
 obtain⟨M,hM⟩:=words.nm (madeCells #[.slice none 0 0] P.length);rw [←hM] at hmk;have hMl:M.toList=List.replicate P.length (.slice none 0 0):=by rw [hM,toList_madeCells_one]
 obtain⟨W1,hW1⟩:=words.nm (w.alloc (.cells #[.slice A L.length c,.int .i64 ad] 29));have hb1:=words.b1 hW1;have hs1:W1.heap[w.heap.size]?=some (.cells #[.slice A L.length c,.int .i64 ad] 29 (0,0)):=by rw [hW1];exact heap_alloc_new w _
 obtain⟨W2,hW2⟩:=words.nm (W1.alloc (.cells M 47));have hb2:Below W1.heap.size W1 W2:=words.b1 hW2;have HRs:Hid (Rs w W1.heap.size P.length D 0 (List.replicate P.length (.slice none 0 0)) W2):=Lib.hid ⟨by rw [hW2,←hMl];exact heap_alloc_new W1 _,List.length_replicate ..,fun i d h=>absurd h (Nat.not_lt_zero _),fun v hv=>⟨none,0,0,(List.mem_replicate.1 hv).2⟩⟩;have HK:=Lib.hid hs1;have HS:=Lib.hid (h.later hb1);have HP:=Lib.hid ((hp.keep hb1).more hb1.size);have HW1:=Lib.hid hW1;have HW2:=Lib.hid hW2;have HB1:=Lib.hid hb1;have HB2:=Lib.hid hb2;have HD:=Lib.hid hD;have HAll:=Lib.hid hall;have HCt:=Lib.hid hct;have hdl:=hD.length;have HDl:=Lib.hid hdl;clear hW1 hW2 hb1 hb2 hs1 h hp hD hall hct hM hMl hdl hiS zS0 zS1 zS2;go_enter func80,ntmps80
 go_upto_region 1 with fail
 rw [←HW1.out];clear HW1;go_upto_region 2 with fail
 rw [←HW2.out];clear HW2 hmk;go_wp2_with fail
 go_loopw [17] (fun v wr=>∃(k:Nat) (cs:List Value),v= .int .i64 (k:Int)∧k≤P.length∧Hid (Rs w W1.heap.size P.length D k cs wr)∧Hid (Below W1.heap.size W1 wr)) (fun v _=>P.length - (intOf v).toNat)
 case atStart=>exact⟨0,_,rfl,Nat.zero_le _,HRs,HB2⟩
 case round=>
  clear HRs HB2;obtain⟨k,cs,rfl,hk,HR,HB⟩:=hrel;by_cases hlt:k<P.length
  ·obtain⟨⟨lv,nd⟩,hx⟩:∃x,P[k]?=some x:=⟨_,List.getElem?_eq_getElem hlt⟩
   obtain⟨d,hd,ha⟩:=HD.out.at_ hx;obtain⟨b,off,hAp,hb,q0,q1⟩:=(HP.out.keep HB.out) k _ hx;subst hAp;have i0:(0:Int)≤(k:Int):=by omega
   have i1:(k:Int)<(P.length:Int):=by omega
   have hkr:=(HB.out.block _ (lt_of_some HK.out)).trans HK.out;obtain⟨W3,hW3⟩:=words.nm (wr.alloc (.cells #[.int .i64 (lv:Int),.int .i64 (nd:Int)] 33));have hb3:Below wr.heap.size wr W3:=words.b1 hW3;have hk3:W3.heap[wr.heap.size]?=some (.cells #[.int .i64 (lv:Int),.int .i64 (nd:Int)] 33 (0,0)):=by rw [hW3];exact heap_alloc_new wr _
   have hs3:=(hb3.block _ (lt_of_some hkr)).trans hkr;have HNm:=Lib.hid (Jl8 ha A c ad L W3 ((HS.out.later HB.out).later hb3));have HR3:=Lib.hid (HR.out.later hb3);have HB3:=Lib.hid (HB.out.trans (hb3.mono HB.out.size));have Hd:=Lib.hid hd;have HW3:=Lib.hid hW3;have s0:=Jaa hs3 0;have s1:=Jaa hs3 1;have p0:=Jaa hk3 0;have p1:=Jaa hk3 1;clear hx hd ha hb hkr hb3 hk3 hs3 hW3 HR HB;go_upto_region 5 with fail
   rw [←HW3.out];clear HW3 q0 q1;go_wp2_with fail
   refine HNm.out.mono ?_;rintro e w4 ⟨A3,c3,rfl,h1,h2,h3,hb4⟩;have hR4:=HR3.out.later hb4;obtain⟨v0,hv0⟩:∃v0,cs[k]?=some v0:=⟨_,List.getElem?_eq_getElem (by rw [hR4.len];exact hlt)⟩
   have g0:w4.cell? ⟨W1.heap.size,k,none⟩=some v0:=(Jaa hR4.blk k).trans (by rw [List.getElem?_toArray];exact hv0);have z0:=Jab hR4.blk k;have HN:=Lib.hid (hR4.next hlt Hd.out h1 h2 (Joq h3));have HB4:=Lib.hid ((HB3.out.trans (hb4.mono HB3.out.size)).setCell (p:=⟨W1.heap.size,k,none⟩) (Nat.le_refl _) (.slice A3 d.N.length c3));have hk2:((k:Int)).toNat=k:=by omega
   clear h1 h2 h3 hb4 hR4 hv0 HNm HR3 HB3 s0 s1 p0 p1;go_wp2_with fail
   go_roundw
   case rel=>exact⟨k+1,_,by go_num,by omega,HN,HB4⟩
   case measure=>simp [intOf];omega
  ·obtain rfl:k=P.length:=by omega
   have hlr:(rowsOf D).length=P.length:=by rw [rows_len,HDl.out]
   have hrows:heap.Rws wr wr.heap.size (some ⟨W1.heap.size,0,none⟩) (rowsOf D):=fun i l hl=>by
    obtain⟨d,hd,rfl⟩:=rows_at hl;obtain⟨A',c',q1,q2,q3,q4⟩:=HR.out.rows i d (by rw [HDl.out];exact (List.getElem?_eq_some_iff.1 hd).1) hd;refine⟨W1.heap.size,0,A',c',rfl,lt_of_some HR.out.blk,?_,q4,q2,q3⟩;rw [Nat.zero_add];exact (Jaa HR.out.blk i).trans (by rw [List.getElem?_toArray];exact q1)
   have hmem:∀l∈rowsOf D,∃d∈D,l=d.N:=fun l hl=>by
    obtain⟨i,hi⟩:=List.mem_iff_getElem?.1 hl;obtain⟨d,hd,e⟩:=rows_at hi;exact⟨d,List.mem_of_getElem? hd,e⟩
   have hM:=heap.merge_any (some ⟨W1.heap.size,0,none⟩) P.length (rowsOf D) wr hrows (fun l hl=>by
     obtain⟨d,hd,rfl⟩:=hmem l hl;exact Js8 (HD.out.right HAll.out d hd).1) (by omega) (by
     have:=tot_le (L:=rowsOf D) (K:=4096) fun l hl=>by
      obtain⟨d,hd,rfl⟩:=hmem l hl;exact HCt.out d hd
     rw [hlr] at this;omega)
   have htot:=tot_le (L:=rowsOf D) (K:=4096) fun l hl=>by
    obtain⟨d,hd,rfl⟩:=hmem l hl;exact HCt.out d hd
   rw [hlr] at hM htot;have HM:=Lib.hid hM;have HBr:=Lib.hid HB.out;have HTot:=Lib.hid htot;clear hrows hmem hM hlr htot HR HB;go_wp2_with fail
   refine HM.out.mono ?_;rintro e w5 ⟨v5,out,rfl,ho5,hmg,hb5⟩;obtain⟨A5,c5,rfl,_,_⟩:=own_facts ho5;have hol:out.length≤1000000:=by
    have h1:=hmg.1.length_eq;have h2:(heap.allF (rowsOf D)).length≤P.length*4096:=HTot.out;omega
   have HF:=Lib.hid (heap.first_any A5 c5 out w5 (Jki ho5) (by omega));have HMg:=Lib.hid hmg;have HB5:=Lib.hid (HBr.out.trans (hb5.mono HBr.out.size));clear ho5 hmg hb5 HM HBr;go_wp2_with fail
   refine HF.out.mono ?_;rintro e w6 ⟨v6,rfl,ho6,hb6⟩;obtain⟨F,hF⟩:=words.nm (heap.firsts out);have hfl:=heap.firsts_le out;rw [←hF] at ho6 hfl;obtain⟨A6,c6,rfl,_,_⟩:=own_facts ho6;have HI:=Lib.hid (Jki ho6);have HB6:=Lib.hid (HB5.out.trans (hb6.mono HB5.out.size));have HFe:=Lib.hid hF;clear ho6 hb6 hF HF HB5;go_wp2_with fail
   go_loopw [33,8] (fun v v8 wr=>∃(k:Nat) (E:List (ByteArray×Int)),v= .int .i64 (k:Int)∧k≤F.length∧E.length≤k∧Hid (Kinds D (F.take k) E)∧Hid (wr.ownsRow w6.heap.size 55 2 v8 E.length (E.flatMap enC))∧Hid (Below w6.heap.size w6 wr)) (fun v _ _=>F.length - (intOf v).toNat)
   case atStart=>exact⟨0,[],rfl,Nat.zero_le _,Nat.le_refl _,Lib.hid rfl,Lib.hid (World.ownsRow_nil _ _ _ _),Lib.hid (Below.refl _ _)⟩
   case round=>
    obtain⟨k,E,rfl,hk,hek,HKn,HO,HB⟩:=hrel;obtain⟨Ar,cr,rfl,hcr,_⟩:=own_facts HO.out;by_cases hlt:k<F.length
    ·obtain⟨⟨sx,rx⟩,hx⟩:∃x,F[k]?=some x:=⟨_,List.getElem?_eq_getElem hlt⟩
     obtain⟨bF,oF,hA6,hbF,x0,x1⟩:=(HI.out.keep HB.out) k _ hx;subst hA6;have hmem:=heap.mem_allF.1 (HMg.out.1.subset (Jn7 (by rw [←HFe.out];exact List.mem_of_getElem? hx)));obtain⟨l,hl,hsl⟩:=hmem;obtain⟨d,hd,rfl⟩:=rows_at hl;obtain⟨i,hi⟩:=List.mem_iff_getElem?.1 hsl;have hi':d.N[i]?=some sx:=hi;have hrl:rx<P.length:=by rw [HDl.out];exact (List.getElem?_eq_some_iff.1 hd).1
     obtain⟨⟨lv,nd⟩,hpx⟩:∃x,P[rx]?=some x:=⟨_,List.getElem?_eq_getElem hrl⟩
     obtain⟨d',hd',ha⟩:=HD.out.at_ hpx;have hdd:D[rx]?=some d:=hd;rw [hdd] at hd';obtain rfl:=Option.some.inj hd';have hril:=(Jbd (ha.one HAll.out)).2.1;obtain⟨y,hy⟩:∃y,d.I[i]?=some y:=⟨_,List.getElem?_eq_getElem (by rw [←hril];exact (List.getElem?_eq_some_iff.1 hi').1)⟩
     have hB1r:=HB6.out.trans (HB.out.mono HB6.out.size);obtain⟨b,off,hAp,hb,q0,q1⟩:=(HP.out.keep hB1r) rx _ hpx;subst hAp;have hkr:=(hB1r.block _ (lt_of_some HK.out)).trans HK.out;have i0:(0:Int)≤(k:Int):=by omega
     have i1:(k:Int)<(F.length:Int):=by omega
     have j0:(0:Int)≤(rx:Int):=by omega
     have j1:(rx:Int)<(P.length:Int):=by omega
     obtain⟨W8,hW8⟩:=words.nm (wr.alloc (.cells #[.string sx,.int .i64 (rx:Int)] 218));have hb8:Below wr.heap.size wr W8:=words.b1 hW8;have hk8:W8.heap[wr.heap.size]?=some (.cells #[.string sx,.int .i64 (rx:Int)] 218 (0,0)):=by rw [hW8];exact heap_alloc_new wr _
     have hs8:=(hb8.block _ (lt_of_some hkr)).trans hkr;have hbl:b<wr.heap.size:=Nat.lt_of_lt_of_le hb hB1r.size;have JK:Hid (∀w':World,Below W8.heap.size W8 w'→Calls prog 116 #[.agg #[.slice A L.length c,.int .i64 ad],.agg #[.int .i64 (lv:Int),.int .i64 (nd:Int)],.string sx] w' fun e w''=>e= .returned (.int .i64 y.K)∧Below W8.heap.size W8 w''):=Lib.hid fun w' hb'=>
      (Joe HAll.out ha hi' hy A c ad L w' (((HS.out.later hB1r).later hb8).later hb')).mono fun _ _ ⟨he,hw⟩=>⟨he,hb'.trans (hw.mono hb'.size)⟩
     have HSS:Hid (∀w':World,Below W8.heap.size W8 w'→(w'.cell? ⟨w.heap.size,0,none⟩=some (.slice A L.length c)∧w'.cell? ⟨w.heap.size,1,none⟩=some (.int .i64 ad)∧w'.cell? ⟨wr.heap.size,0,none⟩=some (.string sx)∧w'.cell? ⟨wr.heap.size,1,none⟩=some (.int .i64 (rx:Int))∧w'.cell? ⟨b,off+rx*2,none⟩=some (.int .i64 (lv:Int))∧w'.cell? ⟨b,off+rx*2+1,none⟩=some (.int .i64 (nd:Int))∧Below W8.heap.size W8 w')):=Lib.hid fun w' hb'=>by
      have e1:=(hb'.block _ (lt_of_some hs8)).trans hs8;have e2:=(hb'.block _ (lt_of_some hk8)).trans hk8;exact⟨Jaa e1 0,Jaa e1 1,Jaa e2 0,Jaa e2 1,((hb8.trans (hb'.mono hb8.size)).cell (p:=⟨b,off+rx*2,none⟩) hbl).trans q0,((hb8.trans (hb'.mono hb8.size)).cell (p:=⟨b,off+rx*2+1,none⟩) hbl).trans q1,hb'⟩
     have HBv:Hid (Below W8.heap.size W8 W8.drew):=Lib.hid (Below.refl _ _).drew;have HKs:=Lib.hid (Kinds.snoc (x:=(sx,rx)) hdd hi' hy HKn.out);have HTk:Hid (F.take (k+1)=F.take k++[(sx,rx)]):=Lib.hid (by
       obtain⟨hkl,hxx⟩:=List.getElem?_eq_some_iff.1 hx;rw [List.take_succ_eq_append_getElem hkl,hxx])
     have HO8:=Lib.hid (ownL HO.out hb8);have HB8:=Lib.hid (HB.out.trans (hb8.mono HB.out.size));have HK8:=Lib.hid hk8;have HW8:=Lib.hid hW8;have r2:((rx:Int)).toNat=rx:=by omega
     clear hx hl hsl hd hi hpx ha hril hkr hb8 hk8 hs8 hW8 q0 q1 hdd hi' hB1r hb hbl;go_upto_region 11 with fail
     rw [←HW8.out];clear HW8 x0 x1;refine wp_region_held_drew (S:=fun w'=>(w'.cell? ⟨w.heap.size,0,none⟩=some (.slice A L.length c)∧w'.cell? ⟨w.heap.size,1,none⟩=some (.int .i64 ad)∧w'.cell? ⟨wr.heap.size,0,none⟩=some (.string sx)∧w'.cell? ⟨wr.heap.size,1,none⟩=some (.int .i64 (rx:Int))∧w'.cell? ⟨b,off+rx*2,none⟩=some (.int .i64 (lv:Int))∧w'.cell? ⟨b,off+rx*2+1,none⟩=some (.int .i64 (nd:Int))∧Below W8.heap.size W8 w')) (by kernel_rfl) (HSS.out _ HBv.out) (fun hHeld=>?_);refine words.tk 0 37 (v:=?_) ?_ ?_
     rotate_left 1
     ·intro _ h;(try dsimp only at h);go_simp;(try with_reducible rfl)
     try simp only [words.pt]
     refine words.tk 1 38 (v:=?_) ?_ ?_
     rotate_left 1
     ·intro _ h;(try dsimp only at h);go_simp;(try with_reducible rfl)
     try simp only [words.pt]
     refine words.tk 2 39 (v:=?_) ?_ ?_
     rotate_left 1
     ·intro _ h;(try dsimp only at h);go_simp;(try with_reducible rfl)
     try simp only [words.pt]
     refine words.tk 3 40 (v:=?_) ?_ ?_
     rotate_left 1
     ·intro _ h;(try dsimp only at h);go_simp;(try with_reducible rfl)
     try simp only [words.pt]
     refine words.tk 4 41 (v:=?_) ?_ ?_
     rotate_left 1
     ·intro _ h;(try dsimp only at h);go_simp;(try with_reducible rfl)
     try simp only [words.pt]
     refine words.tk 5 42 (v:=?_) ?_ ?_
     rotate_left 1
     ·intro _ h;(try dsimp only at h);go_simp;(try with_reducible rfl)
     try simp only [words.pt]
     refine words.tk 6 43 (v:=?_) ?_ ?_
     rotate_left 1
     ·intro _ h;(try dsimp only at h);go_simp;(try with_reducible rfl)
     try simp only [words.pt]
     refine words.tk 7 44 (v:=?_) ?_ ?_
     rotate_left 1
     ·intro _ h;(try dsimp only at h);go_simp;(try with_reducible rfl)
     try simp only [words.pt]
     refine wpAnyH_ready (rs:=[8]) (by kernel_rfl) (by simp) (.cons rfl (fun K hK=>?_) .nil);go_simp
     go_at_call 116
     refine (JK.out _ HBv.out).mono ?_;rintro en v9 ⟨rfl,hv9⟩;clear hHeld;refine hK.out _ _ (HSS.out _ hv9) (fun hHeld=>?_);clear hK;refine words.tk 9 11 (v:=?_) ?_ ?_
     rotate_left 1
     ·intro _ h;(try dsimp only at h);go_simp;(try with_reducible rfl)
     try simp only [words.pt]
     refine wpAnyH_done (by kernel_rfl) ?_ _;have HB9:=Lib.hid (HB8.out.trans (hv9.mono HB8.out.size));have HO9:=Lib.hid (ownL HO8.out hv9);have hk9:=(hv9.block _ (lt_of_some HK8.out)).trans HK8.out;have t0:=Jaa hk9 0;clear hHeld hv9 hk9 JK HSS HBv HO8 HB8 HK8 HO HB;by_cases hK4:y.K=4
     ·have HKn2:Hid (Kinds D (F.take (k+1)) E):=Lib.hid (by
        have h:=HKs.out;rw [if_pos hK4,List.append_nil] at h;rw [HTk.out];exact h)
      rw [hK4];clear HKs HTk hK4;go_wp2_with fail
      go_roundw
      case rel=>exact⟨k+1,E,by go_num,by omega,by omega,HKn2,HO9,HB9⟩
      case measure=>simp [intOf];omega
     ·have HKn2:Hid (Kinds D (F.take (k+1)) (E++[(sx,y.K)])):=Lib.hid (by
        have h:=HKs.out;rw [if_neg hK4] at h;rw [HTk.out];exact h)
      have gk:(y.K !=4)=true:=by simp [hK4]
      obtain⟨Wc,hWc⟩:=words.nm (v9.alloc (.cells #[.string sx,.int .i64 y.K] 55));have hbc:Below v9.heap.size v9 Wc:=words.b1 hWc;have HNc:Hid (∀(i:Nat) (u:Value),([.string sx,.int .i64 y.K]:List Value)[i]?=some u→Wc.cell? ((⟨v9.heap.size,0,none⟩:Addr).add i)=some u):=Lib.hid fun i u hi=>by rw [hWc,Jar];simpa using hi
      have HOc:=Lib.hid (ownL HO9.out hbc);have HBc:=Lib.hid (HB9.out.trans (hbc.mono HB9.out.size));have HWc:=Lib.hid hWc.symm;clear HKs HTk hK4 hWc hbc HO9 HB9;go_wp2_with (at_builtin;rw [HWc.out];refine wpList_append_own _ rfl (.tmp 48) (.tmp 53) 52 rfl w6.heap.size 55 iE _ 2 24 underlying52 hiE zE0 zE1 zE2 rfl (by omega) (.slice Ar E.length cr) E.length (E.flatMap enC) rfl HOc.out ⟨v9.heap.size,0,none⟩ 1 1 [.string sx,.int .i64 y.K] rfl rfl HNc.out (by simp [Value.oneCell']) (by simp only [maxLen];omega) (by omega) HBc.out.size ?_;intro v3' wq hownq hgrowq hnilq)
      have HBq:=Lib.hid (Jad HBc.out HOc.out hgrowq (Nat.le_refl _) (Nat.le_refl _));have HOq:Hid (wq.ownsRow w6.heap.size 55 2 v3' (E++[(sx,y.K)]).length ((E++[(sx,y.K)]).flatMap enC)):=Lib.hid (by rw [List.length_append,List.flatMap_append];exact hownq);clear hownq hgrowq hnilq;go_roundw
      case rel=>exact⟨k+1,E++[(sx,y.K)],by go_num,by omega,by rw [List.length_append];exact Nat.succ_le_succ hek,HKn2,HOq,HBq⟩
      case measure=>simp [intOf];omega
    ·obtain rfl:k=F.length:=by omega
     have HFin:Hid (ListOut D w (.returned (.slice Ar E.length cr)) wr):=Lib.hid (by
       have hkk:=HKn.out;rw [List.take_length,HFe.out] at hkk;have hsz:=HB1.out.trans (HB6.out.mono HB1.out.size);exact⟨out,E,Ar,cr,HMg.out,hkk,rfl,tre.own_base HO.out hsz.size,hsz.trans (HB.out.mono hsz.size)⟩)
     clear HKn HO HB;go_wp2_with fail
     go_ret
     exact HFin.out

theorem Jot (E:List (ByteArray×Int)):(E.flatMap enC).length=E.length*2:=by
 induction E with
 |nil=>rfl
 |cons x E ih=>rw [List.flatMap_cons,List.length_append,ih,List.length_cons];show 2+_=_;omega
theorem Jg1:∀{E:List (ByteArray×Int)} {k:Nat} {x:ByteArray×Int},E[k]?=some x→∀j,j<2→(E.flatMap enC)[k*2+j]?=(enC x)[j]?
 |[],k,x,hk,_,_=>by simp at hk
 |y::E,k,x,hk,j,hj=>by
  rw [List.flatMap_cons];have hl:(enC y).length=2:=rfl;rcases k with _ |k
  ·obtain rfl:y=x:=by simpa using hk
   rw [List.getElem?_append_left (by omega),Nat.zero_mul,Nat.zero_add]
  ·rw [List.getElem?_append_right (by omega),hl,show (k+1)*2+j - 2=k*2+j by omega]
   exact Jg1 (by simpa using hk) j hj
theorem lies_en {w:World} {A:Option Addr} {E:List (ByteArray×Int)} (h:Lies w A (E.flatMap enC)) {k:Nat} {x:ByteArray×Int} (hx:E[k]?=some x):∃b off,A=some ⟨b,off,none⟩∧b<w.heap.size∧w.cell? ⟨b,off+k*2,none⟩=some (.string x.1)∧w.cell? ⟨b,off+k*2+1,none⟩=some (.int .i64 x.2):=by
 obtain⟨b,off,h1,h2,h3⟩:=h (k*2+0) (.string x.1) (by rw [Jg1 hx 0 (by omega)];rfl);obtain⟨b',off',h4,_,h5⟩:=h (k*2+1) (.int .i64 x.2) (by rw [Jg1 hx 1 (by omega)];rfl);rw [h1] at h4;injection h4 with h4;injection h4 with e1 e2;subst e1 e2;exact⟨b,off,h1,h2,h3,h5⟩
theorem lies_own {w:World} {B n c size:Nat} {E:TypeId} {A:Option Addr} {xs:List Value} (h:w.ownsRow B E size (.slice A n c) n xs):Lies w A xs:=fun j u hj=>by
 obtain⟨g,cur,h1,_,h2,_,h3⟩:=tre.own_cell h hj;exact⟨g,0,h1,h2,by rw [Nat.zero_add];exact h3⟩

end Go.Proofs.YtkjpgheealfedaaGreatDoor.mrg
