import Derived.Test.YtkjpgheealfedaaGreatDoorJXG
set_option maxRecDepth 100000
open Go.Proofs.Tryz hiding parts
namespace Go.Proofs.YtkjpgheealfedaaGreatDoor.wlk
open Go.RowKit words ext name tre stk Go.Proofs.YtkjpgheealfedaaGreatDoor.seen

def SawP (R:List Nd) (P:List (Nat×Nat)) (D:List Nd) (s:ByteArray) (Q':List Nd) (w:World) (en:Ending) (w':World):Prop:=
 ((seenOf Q'=[]∧en= .returned (.tuple #[foundV 0 0 0 none 0 0,.bool false]))∨
  (∃x d Q0,seenOf Q'=[d]∧At R x d∧(d.K=1∨d.K=3)∧Top P D s x∧en= .returned (.tuple #[foundV d.K (x.1:Int) (x.2:Int) none 0 0,.bool true])∧EntsOf (tabs R) s P Q0∧Q0[0]?=some x)∨
  (∃x d Q A c Q0,(seenOf Q')[0]?=some d∧At R x d∧d.K=2∧Top P D s x∧Ats R Q (seenOf Q')∧Up Q∧Q[0]?=some x∧(∀d∈seenOf Q',d.K=2)∧
     en= .returned (.tuple #[foundV d.K (x.1:Int) (x.2:Int) A Q.length c,.bool true])∧Plc w' w'.heap.size A Q∧Q.length≤c∧EntsOf (tabs R) s P Q0∧Q0[0]?=some x∧Q=Q0.take (oneN (tabs R) Q0)))∧Below w.heap.size w w'
theorem Jqr {R:List Nd} (hall:∀t∈R,allB t=true) {P:List (Nat×Nat)} {D:List Nd} (hD:Ats R P D) (hU:Up P) {s:ByteArray} {Q':List Nd} (hQ:EntN s D Q')
  (A:Option Addr) (c:Nat) (ad:Int) (L:List (Nat×Int)) (Ap:Option Addr) (cp:Nat) (w:World) (h:StkM w A L (tabs R)) (hp:Plc w w.heap.size Ap P) (hlp:P.length≤1000):
  Calls prog 29 #[stkV A L.length c ad,.slice Ap P.length cp,.string s] w (SawP R P D s Q' w):=by
 refine (Je5 A c ad L (tabs R) Ap cp P s w h hp hlp hD.all (Jkm hall) Jm5).mono ?_;rintro en w' ⟨Q,hE,hO,hb⟩;obtain⟨j1,j2,j3,j4⟩:=join hall hD hE hQ;refine⟨?_,hb⟩;rcases hO with⟨h1,rfl⟩ |⟨x,e,h1,h2,h3,rfl⟩ |⟨x,e,A',c',h1,h2,h3,rfl,h4,h5⟩
 ·refine .inl ⟨?_,rfl⟩
  rcases Q' with _ |⟨d,Q'⟩
  ·rfl
  ·rcases Q with _ |⟨x,Q⟩
   ·exact j1.elim
   ·have hk:=h1 x _ rfl j1.1.ent
    have hK:(entOf x.2 d).x.K=d.K:=Jcg d;rw [hK] at hk;have:=Jnk (j1.1.one hall);unfold seenOf;simp only;rw [if_pos (by omega)]
 ·refine .inr (.inl ?_)
  obtain⟨d,g1,g2⟩:=j1.at_ h1;have he:=g2.ent;rw [h2] at he;obtain rfl:=Option.some.inj he;have hK:(entOf x.2 d).x.K=d.K:=Jcg d;rw [hK] at h3 ⊢;refine⟨x,d,Q,?_,g2,h3,j4 x h1,rfl,hE,h1⟩;rcases Q' with _ |⟨d',Q'⟩
  ·simp at g1
  ·obtain rfl:d'=d:=by simpa using g1
   unfold seenOf;simp only;rw [if_neg (by omega),if_neg (by omega)];rfl
 ·refine .inr (.inr ?_)
  obtain⟨d,g1,g2⟩:=j1.at_ h1;have he:=g2.ent;rw [h2] at he;obtain rfl:=Option.some.inj he;have hK:(entOf x.2 d).x.K=d.K:=Jcg d;rw [hK] at h3 ⊢;rcases Q' with _ |⟨d',Q'⟩
  ·simp at g1
  ·obtain rfl:d'=d:=by simpa using g1
   obtain⟨s1,s2⟩:=Jdl (D:=Q') h3;have s3:=Jdu j1;have s4:Ats R (Q.take (oneN (tabs R) Q)) (seenOf (d'::Q')):=by rw [s1,s3];exact j1.take _
   have s5:1≤oneN (tabs R) Q:=by rw [s3];exact s2
   have s6:(Q.take (oneN (tabs R) Q))[0]?=some x:=by rw [List.getElem?_take_of_lt (by omega)];exact h1
   obtain⟨d2,s7,s8⟩:=s4.at_ s6;have hd2:d2=d':=by
    rw [s1,List.getElem?_take_of_lt (by omega)] at s7;simpa using s7.symm
   subst hd2;refine⟨x,d2,_,A',c',Q,s7,g2,h3,j4 x h1,s4,(hU.sub j2).take _,s6,fun q hq=>?_,rfl,h4,h5,hE,h1,rfl⟩;unfold seenOf at hq;simp only at hq;rw [if_neg (by omega),if_pos h3] at hq;exact Jfl _ q (List.mem_of_mem_take hq)
theorem Jrx {e:Ent} {s:ByteArray} {o o':Option Nat} (ha:Asc e.x.N) (h:Lk e s o) (h':Lk e s o'):o=o':=by
 rcases h with⟨i,id,h1,h2,rfl⟩ |⟨rfl,h1⟩
 ·rcases h' with⟨j,id',h1',h2',rfl⟩ |⟨rfl,h1'⟩
  ·obtain rfl:=Asc.one ha h1 h1'
   rw [h2] at h2';exact h2'
  ·exact absurd h1 (h1' i)
 ·rcases h' with⟨j,id',h1',h2',rfl⟩ |⟨rfl,_⟩
  ·exact absurd h1' (h1 j)
  ·rfl
theorem Jf4 {Es:List (List Ent)} {s:ByteArray} (hok:∀E∈Es,∀e∈E,Asc e.x.N∧e.ids.length=e.x.N.length):∀{P Q Q':List (Nat×Nat)},EntsOf Es s P Q→EntsOf Es s P Q'→Q=Q'
 |[],Q,Q',h,h'=>by
  have e1:Q=[]:=h;have e2:Q'=[]:=h';rw [e1,e2]
 |x::P,Q,Q',⟨e,o,Q1,h1,h2,h3,h4⟩,⟨e',o',Q1',h1',h2',h3',h4'⟩=>by
  rw [h1] at h1';obtain rfl:=Option.some.inj h1';have he:∃E∈Es,e∈E:=by
   unfold entAt at h1;obtain⟨E,hE,hx⟩:=Option.bind_eq_some_iff.1 h1;exact⟨E,List.mem_of_getElem? hE,List.mem_of_getElem? hx⟩
  obtain⟨E,hE,hx⟩:=he;obtain rfl:=Jrx (hok E hE e hx).1 h2 h2';obtain rfl:=Jf4 hok h4 h4';rw [h3,h3']
def PlR (R:List Nd):List ByteArray→List (Nat×Nat)→Prop
 |[],Q=>Q=rootP (tabs R)
 |p::rs,Q=>∃P Q0,PlR R rs P∧EntsOf (tabs R) p P Q0∧Q=Q0.take (oneN (tabs R) Q0)
def PlQ (R:List Nd) (ns:List ByteArray) (Q:List (Nat×Nat)):Prop:=PlR R ns.reverse Q
theorem PlQ.snoc {R:List Nd} {ns:List ByteArray} {P Q0 Q:List (Nat×Nat)} {p:ByteArray} (h:PlQ R ns P) (h0:EntsOf (tabs R) p P Q0) (hQ:Q=Q0.take (oneN (tabs R) Q0)):PlQ R (ns++[p]) Q:=by
 unfold PlQ;rw [List.reverse_append];exact⟨P,Q0,h,h0,hQ⟩
theorem Jld {R:List Nd} (hg:∀t∈R,allB t=true):∀{rs:List ByteArray} {Q Q':List (Nat×Nat)},PlR R rs Q→PlR R rs Q'→Q=Q'
 |[],Q,Q',h,h'=>by
  have e1:Q=rootP (tabs R):=h;have e2:Q'=rootP (tabs R):=h';rw [e1,e2]
 |p::rs,Q,Q',⟨P,Q0,h1,h2,h3⟩,⟨P',Q0',h1',h2',h3'⟩=>by
  obtain rfl:=Jld hg h1 h1';obtain rfl:=Jf4 (Jkm hg) h2 h2';rw [h3,h3']
theorem PlQ.uniq {R:List Nd} (hg:∀t∈R,allB t=true) {ns:List ByteArray} {Q Q':List (Nat×Nat)} (h:PlQ R ns Q) (h':PlQ R ns Q'):Q=Q':=Jld hg h h'
def Spt (R:List Nd) (ns:List ByteArray) (t:Tg):Prop:=
 (t.K=2∧PlQ R ns t.Q∧t.l=(((t.Q.head?.getD (0,0)).1:Nat):Int)∧t.i=(((t.Q.head?.getD (0,0)).2:Nat):Int))∨
 (t.K≠2∧t.Q=[]∧∃ms p P Q0 x,ns=ms++[p]∧PlQ R ms P∧EntsOf (tabs R) p P Q0∧Q0[0]?=some x∧t.l=(x.1:Int)∧t.i=(x.2:Int))
theorem Spt.uniq {R:List Nd} (hg:∀t∈R,allB t=true) {ns:List ByteArray} {t t':Tg} (hK:t.K=t'.K) (h:Spt R ns t) (h':Spt R ns t'):t.l=t'.l∧t.i=t'.i∧t.Q.length=t'.Q.length:=by
 rcases h with⟨h1,h2,h3,h4⟩ |⟨h1,h2,ms,p,P,Q0,x,rfl,h3,h4,h5,h6,h7⟩
 ·rcases h' with⟨_,h2',h3',h4'⟩ |⟨h1',_⟩
  ·have e:=h2.uniq hg h2'
   rw [h3,h4,h3',h4',e];exact⟨rfl,rfl,rfl⟩
  ·rw [hK] at h1;exact absurd h1 h1'
 ·rcases h' with⟨h1',_⟩ |⟨_,h2',ms',p',P',Q0',x',e,h3',h4',h5',h6',h7'⟩
  ·rw [hK] at h1;exact absurd h1' h1
  ·obtain⟨e1,e2⟩:=List.append_inj' e rfl
   obtain rfl:=e1;injection e2 with e2 _;subst e2;obtain rfl:=h3.uniq hg h3';obtain rfl:=Jf4 (Jkm hg) h4 h4';rw [h5] at h5';obtain rfl:=Option.some.inj h5';rw [h6,h7,h6',h7',h2,h2'];exact⟨rfl,rfl,rfl⟩

def pathOf (ns:List ByteArray):ByteArray:=ns.foldl childS ⟨#[47]⟩
theorem Jgc (ns:List ByteArray) (p:ByteArray):pathOf (ns++[p])=childS (pathOf ns) p:=by
 unfold pathOf;rw [List.foldl_append];rfl
theorem Jfo (d s:ByteArray):(childS d s).size≤d.size+s.size+1:=by
 rw [←name.size_list (childS d s),←name.size_list d,←name.size_list s];unfold childS;simp only;split
 ·simp
 ·simp
  omega
theorem Jgh:∀(ns:List ByteArray) (s0:ByteArray),(∀n∈ns,n.size≤1024)→(ns.foldl childS s0).size≤s0.size+ns.length*1025
 |[],s0,_=>by simp
 |n::ns,s0,h=>by
  have h1:=Jgh ns (childS s0 n) fun m hm=>h m (List.mem_cons_of_mem _ hm);have h2:=Jfo s0 n;have h3:=h n (List.mem_cons_self ..);rw [List.foldl_cons,List.length_cons,Nat.add_mul];omega
def Nm (p:ByteArray):Prop:=p.size≤1024∧idle p.data.toList=false∧bad p.data.toList=false∧(47:UInt8) ∉ p.data.toList
def NmD (p:ByteArray):Prop:=Nm p∧p≠dd
def HoldD (R:List Nd) (t:Tg) (E:List Nd):Prop:=
 (∀d∈E,d.K=2)∧t.K=2∧Ats R t.Q E∧Up t.Q∧t.l=(((t.Q.head?.getD (0,0)).1:Nat):Int)∧t.i=(((t.Q.head?.getD (0,0)).2:Nat):Int)
def Hold (R:List Nd) (t:Tg) (E:List Nd):Prop:=
 HoldD R t E∨∃lv nd d,E=[d]∧(d.K=1∨d.K=3)∧At R (lv,nd) d∧t.K=d.K∧t.l=(lv:Int)∧t.i=(nd:Int)∧t.Q=[]
def WayD (R:List Nd) (ts:List Tg) (ns:List ByteArray):Prop:=
 ts.length=ns.length+1∧∀i,i≤ns.length→∃t E,ts[i]?=some t∧Along (D0 R) (ns.take i) E∧HoldD R t E∧t.S=pathOf (ns.take i)∧(i≠0→E≠[])∧PlQ R (ns.take i) t.Q
theorem WayD.take {R:List Nd} {ts:List Tg} {ns:List ByteArray} (h:WayD R ts ns) {k:Nat} (h1:1≤k) (h2:k≤ts.length):WayD R (ts.take k) (ns.take (k - 1)):=by
 obtain⟨hl,hw⟩:=h;have hnl:(ns.take (k - 1)).length=k - 1:=by rw [List.length_take];omega
 refine⟨by rw [List.length_take,hnl];omega,fun i hi=>?_⟩;rw [hnl] at hi;obtain⟨t,E,a1,a2,a3⟩:=hw i (by omega);have e:(ns.take (k - 1)).take i=ns.take i:=by rw [List.take_take,Nat.min_eq_left hi]
 exact⟨t,E,by rw [List.getElem?_take_of_lt (by omega)];exact a1,by rw [e];exact a2,by rw [e];exact a3⟩
theorem WayD.last {R:List Nd} {ts:List Tg} {ns:List ByteArray} (h:WayD R ts ns):∃ts' t E,ts=ts'++[t]∧ts'.length=ns.length∧Along (D0 R) ns E∧HoldD R t E∧t.S=pathOf ns∧(ns≠[]→E≠[])∧PlQ R ns t.Q:=by
 obtain⟨hl,hw⟩:=h;obtain⟨t,E,a1,a2,a3,a4,a5,a6⟩:=hw ns.length (Nat.le_refl _);rw [List.take_length] at a2 a4 a6;have hne:ts≠[]:=fun e=>by rw [e] at hl;simp at hl
 have ht:ts.getLast hne=t:=by
  rw [List.getLast_eq_getElem];obtain⟨h1,h2⟩:=List.getElem?_eq_some_iff.1 a1;rw [←h2];congr 1;omega
 refine⟨ts.dropLast,t,E,by rw [←ht];exact (List.dropLast_concat_getLast hne).symm,by rw [List.length_dropLast];omega,a2,a3,a4,fun hn=>a5 (fun e=>hn (List.eq_nil_of_length_eq_zero e)),a6⟩
theorem WayD.snoc {R:List Nd} {ts:List Tg} {ns:List ByteArray} (h:WayD R ts ns) {p:ByteArray} {D Q:List Nd} (hD:Along (D0 R) ns D) (hQ:EntN p D Q) (hne:seenOf Q≠[]) {t:Tg} (ht:HoldD R t (seenOf Q)) (hs:t.S=childS (pathOf ns) p) (hq:PlQ R (ns++[p]) t.Q):WayD R (ts++[t]) (ns++[p]):=by
 obtain⟨hl,hw⟩:=h;refine⟨by rw [List.length_append,List.length_append,hl];rfl,fun i hi=>?_⟩;rw [List.length_append,List.length_singleton] at hi;rcases Nat.lt_or_ge i (ns.length+1) with hlt |hge
 ·obtain⟨t',E,a1,a2,a3⟩:=hw i (by omega)
  have e:(ns++[p]).take i=ns.take i:=List.take_append_of_le_length (by omega);exact⟨t',E,by rw [List.getElem?_append_left (by omega)];exact a1,by rw [e];exact a2,by rw [e];exact a3⟩
 ·obtain rfl:i=ns.length+1:=by omega
  have e:(ns++[p]).take (ns.length+1)=ns++[p]:=List.take_of_length_le (by simp);exact⟨t,seenOf Q,by rw [←hl];simp,by rw [e];exact hD.snoc hQ,ht,by rw [e,hs,Jgc],fun _=>hne,by rw [e];exact hq⟩
theorem WayD.deep {R:List Nd} {ts:List Tg} {ns:List ByteArray} {k:Nat} (h:WayD R ts ns) (hk:∀d∈R,depth d<k):ns.length≤k:=by
 obtain⟨ts',t,E,_,_,hE,_,_,hne,_⟩:=h.last;rcases Nat.eq_zero_or_pos ns.length with h0 |h0
 ·omega
 ·have h1:=hne (fun e=>by rw [e] at h0;simp at h0)
  obtain⟨d,E',rfl⟩:=List.exists_cons_of_ne_nil h1;have:=hE.deep (k:=k) (fun d hd=>hk d (List.mem_of_mem_take hd)) d (List.mem_cons_self ..);omega
theorem Jrg {R:List Nd} (hk:∀t∈R,t.K=2):WayD R [topT (rootP (tabs R))] []:=
 ⟨rfl,fun i hi=>by
   obtain rfl:i=0:=Nat.le_zero.1 hi;exact⟨_,D0 R,rfl,rfl,⟨fun d hd=>hk d (List.mem_of_mem_take hd),rfl,Jli hk,Jmt,rfl,rfl⟩,rfl,fun h=>absurd rfl h,rfl⟩⟩
theorem Leads.inv {R:List Nd} {f:Bool} (hg:∀t∈R,allB t=true) {ns:List ByteArray} {p:ByteArray} {ps:List ByteArray} {h:Nat} {o:AtO} {D Q:List Nd} (hL:Leads R f ns (p::ps) h o) (hp:p≠dd) (hD:Along (D0 R) ns D) (hQ:EntN p D Q):
  (seenOf Q=[]∧o= .err 2)∨∃d S,seenOf Q=d::S∧((d.K=2∧Leads R f (ns++[p]) ps h o)∨(d.K=3∧(f=true∨0<ps.length)∧h=0∧o= .err 4)∨
    (d.K=3∧(f=true∨0<ps.length)∧∃h' qs,h=h'+1∧parts d.T.data.toList=some (qs.map fun y=>y.data.toList)∧Leads R f (if (d.T.data.toList.head?==some 47)=true then [] else ns) (qs++ps) h' o)∨
    (d.K≠2∧¬(d.K=3∧(f=true∨0<ps.length))∧0<ps.length∧o= .err 3)∨(d.K≠2∧¬(d.K=3∧(f=true∨0<ps.length))∧ps=[]∧o= .ok (ns++[p]) (d::S))):=by
 have gr:=Good.root hg;have same:∀{D' Q':List Nd},Along (D0 R) ns D'→EntN p D' Q'→Q'=Q:=fun a' e'=>by
  obtain rfl:=a'.uniq gr hD;exact EntN.uniq (fun d hd=>((a'.good gr).asc d hd).1) e' hQ
 cases hL with
 |up _=>exact absurd rfl hp
 |none _ a e s=>obtain rfl:=same a e;exact .inl ⟨s,rfl⟩
 |dir _ a e s k l=>obtain rfl:=same a e;exact .inr ⟨_,_,s,.inl ⟨k,l⟩⟩
 |loop _ a e s k c=>obtain rfl:=same a e;exact .inr ⟨_,_,s,.inr (.inl ⟨k,c,rfl,rfl⟩)⟩
 |hop _ a e s k c q l=>obtain rfl:=same a e;exact .inr ⟨_,_,s,.inr (.inr (.inl ⟨k,c,_,_,rfl,q,l⟩))⟩
 |not _ a e s k c l=>obtain rfl:=same a e;exact .inr ⟨_,_,s,.inr (.inr (.inr (.inl ⟨k,c,l,rfl⟩)))⟩
 |leaf _ a e s k c=>obtain rfl:=same a e;exact .inr ⟨_,_,s,.inr (.inr (.inr (.inr ⟨k,c,rfl,rfl⟩)))⟩
theorem Leads.end_ {R:List Nd} {f:Bool} {ns:List ByteArray} {h:Nat} {o:AtO} (hL:Leads R f ns [] h o):∃D,Along (D0 R) ns D∧o= .ok ns D:=by
 cases hL with
 |done a=>exact⟨_,a,rfl⟩
def Fin (R:List Nd) (O:AtO) (ts:List Tg):Prop:=∃ts' t ns E,ts=ts'++[t]∧ts'.length≤200∧O= .ok ns E∧Hold R t E∧t.S=pathOf ns∧(∀n∈ns,NmD n)∧ns.length≤200∧Along (D0 R) ns E∧(ns≠[]→E≠[])∧Spt R ns t
structure Inv (R:List Nd) (f:Bool) (O:AtO) (ts:List Tg) (ps:List ByteArray) (h:Nat):Prop where
 go:(ps=[]∧Fin R O ts)∨∃p ps' ns,ps=p::ps'∧p≠dd∧WayD R ts ns∧Leads R f ns ps (40 - h) O∧∀n∈ns,NmD n
 small:∀p∈ps,Nm p
 hops:h≤40
 few:ps.length+(40 - h)*520≤30000
theorem Jik:∀(ps:List ByteArray),∀p∈restP ps,p∈ps
 |[],p,h=>h
 |q::ps,p,h=>by
  unfold restP at h;split at h
  ·exact List.mem_cons_of_mem _ (Jik ps p h)
  ·exact h
theorem Inv.make {R:List Nd} {f:Bool} {O:AtO} {ts:List Tg} {ns ps:List ByteArray} {h:Nat} (hg:∀t∈R,allB t=true) (hk:∀d∈R,depth d<100) (hw:WayD R ts ns) (hL:Leads R f ns ps (40 - h) O) (hn:∀n∈ns,NmD n)
  (hs:∀p∈ps,Nm p) (hh:h≤40) (hf:ps.length+(40 - h)*520≤30000):Inv R f O (ts.take (upK ts.length ps)) (restP ps) h:=by
 have h1:1≤ts.length:=by have:=hw.1;omega
 have k1:=Jo9 ps ts.length h1;have k2:=Jos ps ts.length ts.length (Nat.le_refl _) h1;have hw2:=hw.take k1 k2;have hlen:ns.length+1=ts.length:=hw.1.symm;obtain⟨o,ho⟩:=Jgm (f:=f) hg (40 - h) (restP ps) (ns.take (upK ts.length ps - 1));have ho2:Leads R f ns ps (40 - h) o:=Leads.ups (by rw [hlen];exact ho);obtain rfl:=hL.uniq hg ho2;have hr:=Je9 ps;have hn2:∀n∈ns.take (upK ts.length ps - 1),NmD n:=fun n h=>hn n (List.mem_of_mem_take h);refine⟨?_,fun p hp=>hs p (Jik ps p hp),hh,by omega⟩;rcases hrp:restP ps with _ |⟨p,rs⟩
 ·refine .inl ⟨rfl,?_⟩
  rw [hrp] at ho;obtain⟨D,hD,e⟩:=ho.end_;obtain⟨ts',t,E,e1,e2,e3,e4,e5,e6,e7⟩:=hw2.last;obtain rfl:=hD.uniq (Good.root hg) e3;have:=hw2.deep hk;exact⟨ts',t,_,_,e1,by omega,e,.inl e4,e5,hn2,by omega,hD,e6,.inl ⟨e4.2.1,e7,e4.2.2.2.2.1,e4.2.2.2.2.2⟩⟩
 ·refine .inr ⟨p,rs,_,rfl,Jgl hrp,hw2,?_,hn2⟩
  rw [←hrp];exact ho

def Stepped (R:List Nd) (f:Bool) (O:AtO) (g:Nat) (ps:List ByteArray) (h:Nat) (w:World) (e:Ending) (w':World):Prop:=
 (∃k:Int,k≠0∧0≤k∧k≤9∧e= .returned (.int .i64 k)∧O= .err k∧Below w.heap.size w w')∨
 (e= .returned (.int .i64 0)∧∃ts2 ps2 h2,Wkr w' g ts2 ps2 f h2∧Tur g w w'∧Inv R f O ts2 ps2 h2∧(40 - h2)*128+ps2.length<(40 - h)*128+(ps.length+1))
theorem Jlr:∀l:List UInt8,∀p∈cut l,(47:UInt8) ∉ p
 |[],p,h=>by
  have e:p=[]:=by simpa [cut] using h
  rw [e];simp
 |b::l,p,h=>by
  unfold cut at h;by_cases hb:b=47
  ·rw [if_pos hb] at h
   rcases List.mem_cons.1 h with rfl |h
   ·simp
   ·exact Jlr l p h
  ·rw [if_neg hb] at h
   rcases hc:cut l with _ |⟨q,r⟩
   ·exact absurd hc (Jq7 l)
   ·rw [hc] at h
    simp only at h;rcases List.mem_cons.1 h with rfl |h
    ·intro h2
     rcases List.mem_cons.1 h2 with h2 |h2
     ·exact hb h2.symm
     ·exact Jlr l q (by rw [hc];exact List.mem_cons_self ..) h2
    ·exact Jlr l p (by rw [hc];exact List.mem_cons_of_mem _ h)
section
variable {R:List Nd} {f:Bool} {O:AtO} {ts:List Tg} {t:Tg} {ns ps:List ByteArray} {p:ByteArray} {h:Nat} {E Q':List Nd} {g:Nat} {w w':World} {e:Ending} {x:ByteArray}
theorem Jmp {ps:List ByteArray} {l:List UInt8} (h:parts l=some (ps.map fun y=>y.data.toList)):∀p∈ps,Nm p:=fun p hp=>by
 have h0:=(Jb4 h).2.1;unfold parts at h;split at h
 ·cases h
 ·rename_i hb
  injection h with h;have h1:p.data.toList∈(cut l).filter fun p=> !idle p:=by rw [h];exact List.mem_map.2 ⟨p,hp,rfl⟩
  obtain⟨h3,h4⟩:=List.mem_filter.1 h1;have h2:=Jjl l _ h3;rw [name.size_list] at h2;refine⟨by omega,by simpa using h4,?_,Jlr l _ h3⟩;rcases hbd:bad p.data.toList with _ |_
  ·rfl
  ·exact absurd (.inr (.inr (List.any_eq_true.2 ⟨_,h3,hbd⟩))) hb
theorem Jnm {K l i:Int} {Qf:List (Nat×Nat)} (hg:∀t∈R,allB t=true) (hL:Leads R f ns (p::ps) (40 - h) O) (hp:p≠dd) (hE:Along (D0 R) ns E) (hQ:EntN p E Q') (hs:seenOf Q'=[])
  (H:Told g ts t p ps f h K l i Qf false x w e w'):Stepped R f O g ps h w e w':=by
 unfold Told at H;rw [if_pos rfl] at H;rcases hL.inv hg hp hE hQ with⟨_,ho⟩ |⟨d,S,h1,_⟩
 ·exact .inl ⟨2,by decide,by decide,by decide,H.1,ho,H.2⟩
 ·rw [hs] at h1;cases h1
theorem Jq4 {lv nd:Nat} {Qf:List (Nat×Nat)} (hg:∀t∈R,allB t=true) (hk:∀d∈R,depth d<100) (hw:WayD R (ts++[t]) ns) (hL:Leads R f ns (p::ps) (40 - h) O) (hp:p≠dd) (hn:∀n∈ns,NmD n) (hs:∀q∈p::ps,Nm q)
  (hh:h≤40) (hf:(p::ps).length+(40 - h)*520≤30000) (hE:Along (D0 R) ns E) (hQ:EntN p E Q') (hS:t.S=pathOf ns) (h0:seenOf Q'≠[]) (h1:Ats R Qf (seenOf Q')) (h2:Up Qf) (h3:Qf[0]?=some (lv,nd)) (h4:∀d∈seenOf Q',d.K=2) {Q0:List (Nat×Nat)} (hq:PlQ R ns t.Q) (h5:EntsOf (tabs R) p t.Q Q0) (h6:Qf=Q0.take (oneN (tabs R) Q0))
  (H:Told g ts t p ps f h 2 (lv:Int) (nd:Int) Qf true x w e w'):Stepped R f O g ps h w e w':=by
 unfold Told at H;rw [if_neg (by decide),if_pos rfl] at H;obtain⟨he,hwk,ht⟩:=H;rw [List.length_cons] at hf;rcases hL.inv hg hp hE hQ with⟨hz,_⟩ |⟨d,S,hd,hcase⟩
 ·exact absurd hz h0
 have hK:d.K=2:=h4 d (by rw [hd];exact List.mem_cons_self ..);have hL2:Leads R f (ns++[p]) ps (40 - h) O:=by
  rcases hcase with⟨_,h⟩ |⟨h,_⟩ |⟨h,_⟩ |⟨h,_⟩ |⟨h,_⟩
  ·exact h
  ·rw [hK] at h;exact absurd h (by decide)
  ·rw [hK] at h;exact absurd h (by decide)
  ·exact absurd hK h
  ·exact absurd hK h
 have hhd:Qf.head?.getD (0,0)=(lv,nd):=by rw [←List.head?_eq_getElem?] at h3;rw [h3];rfl
 have hw2:=hw.snoc (t:=(⟨childS t.S p,2,(lv:Int),(nd:Int),Qf⟩:Tg)) hE hQ h0 ⟨h4,rfl,h1,h2,by rw [hhd],by rw [hhd]⟩ (by rw [hS]) (hq.snoc h5 h6);have hi:=Inv.make hg hk hw2 hL2 (fun n hn'=>by
   rcases List.mem_append.1 hn' with h |h
   ·exact hn n h
   ·rw [List.mem_singleton.1 h];exact⟨hs p (List.mem_cons_self ..),hp⟩) (fun q hq=>hs q (List.mem_cons_of_mem _ hq)) hh (by omega)
 have hl:(ts++[t]++[(⟨childS t.S p,2,(lv:Int),(nd:Int),Qf⟩:Tg)]).length=ts.length+2:=by simp
 rw [hl] at hi;have hr:=Je9 ps;exact .inr ⟨he,_,_,_,hwk,ht,hi,by omega⟩
theorem Jmg {lv nd:Nat} {d:Nd} (hg:∀t∈R,allB t=true) (hk:∀d∈R,depth d<100) (hw:WayD R (ts++[t]) ns) (hL:Leads R f ns (p::ps) (40 - h) O) (hp:p≠dd) (hn:∀n∈ns,NmD n) (hs:∀q∈p::ps,Nm q)
  (hh:h≤40) (hf:(p::ps).length+(40 - h)*520≤30000) (hE:Along (D0 R) ns E) (hQ:EntN p E Q') (hS:t.S=pathOf ns) (h0:seenOf Q'=[d]) (h1:At R (lv,nd) d) (h2:d.K=1∨d.K=3) (hx:d.K=3→x=d.T) {Q0:List (Nat×Nat)} (hq:PlQ R ns t.Q) (h5:EntsOf (tabs R) p t.Q Q0) (h6:Q0[0]?=some (lv,nd))
  (H:Told g ts t p ps f h d.K (lv:Int) (nd:Int) [] true x w e w'):Stepped R f O g ps h w e w':=by
 have hK2:d.K≠2:=by rcases h2 with h |h<;>rw [h]<;>decide
 unfold Told at H;rw [if_neg (by decide),if_neg hK2] at H;rw [List.length_cons] at hf;have hnl:=hw.deep hk;have htl:ts.length=ns.length:=by have:=hw.1;simp at this;omega
 rcases hL.inv hg hp hE hQ with⟨hz,_⟩ |⟨d',S,hd,hcase⟩
 ·rw [h0] at hz;cases hz
 rw [h0] at hd;injection hd with e1 e2;subst e1;subst e2;by_cases hc:d.K=3∧(f=true∨0<ps.length)
 ·rw [if_pos hc] at H
  rw [hx hc.1] at H;rcases H with⟨g1,g2,g3⟩ |⟨g1,g2,_⟩ |⟨g1,Q,g2,g3,g4,g5⟩
  ·rcases hcase with⟨h,_⟩ |⟨_,_,_,ho⟩ |⟨_,_,h',qs,h,_⟩ |⟨_,h,_⟩ |⟨_,h,_⟩
   ·exact absurd h hK2
   ·exact .inl ⟨4,by decide,by decide,by decide,g2,ho,g3⟩
   ·omega
   ·exact absurd hc h
   ·exact absurd hc h
  ·rcases hcase with⟨h,_⟩ |⟨_,_,h,_⟩ |⟨_,_,h',qs,_,h,_⟩ |⟨_,h,_⟩ |⟨_,h,_⟩
   ·exact absurd h hK2
   ·omega
   ·rw [g2] at h;cases h
   ·exact absurd hc h
   ·exact absurd hc h
  ·have hql:=Jb4 g2
   rw [List.length_map] at hql;have hsz:=(Jcv (((hE.good (Good.root hg)).seen hQ).one (d:=d) (by rw [h0];exact List.mem_cons_self ..)) hc.1).1;rw [name.size_list] at hql;have hL2:Leads R f (if (d.T.data.toList.head?==some 47)=true then [] else ns) (Q++ps) (40 - (h+1)) O:=by
    rcases hcase with⟨h,_⟩ |⟨_,_,h,_⟩ |⟨_,_,h',qs,he,hq,hl⟩ |⟨_,h,_⟩ |⟨_,h,_⟩
    ·exact absurd h hK2
    ·omega
    ·rw [g2] at hq
     injection hq with hq;obtain rfl:=Jc0 hq;rw [show 40 - (h+1)=h' by omega];exact hl
    ·exact absurd hc h
    ·exact absurd hc h
   have hw2:WayD R (if (d.T.data.toList.head?==some 47)=true then (ts++[t]).take 1 else ts++[t]) (if (d.T.data.toList.head?==some 47)=true then [] else ns):=by
    split
    ·have:=hw.take (k:=1) (Nat.le_refl _) (by rw [hw.1];omega)
     simpa using this
    ·exact hw
   have hn2:∀n∈(if (d.T.data.toList.head?==some 47)=true then [] else ns),NmD n:=fun n hn'=>by
    split at hn'
    ·cases hn'
    ·exact hn n hn'
   have hi:=Inv.make hg hk hw2 hL2 hn2 (fun q hq=>by
     rcases List.mem_append.1 hq with h |h
     ·exact Jmp g2 q h
     ·exact hs q (List.mem_cons_of_mem _ h)) (by omega) (by rw [List.length_append];omega)
   have hr:=Je9 (Q++ps);rw [List.length_append] at hr;exact .inr ⟨g3,_,_,_,g4,g5,hi,by omega⟩
 ·rw [if_neg hc] at H
  by_cases hps:0<ps.length
  ·rw [if_pos hps] at H
   rcases hcase with⟨h,_⟩ |⟨h1,h2,_⟩ |⟨h1,h2,_⟩ |⟨_,_,_,ho⟩ |⟨_,_,h,_⟩
   ·exact absurd h hK2
   ·exact absurd ⟨h1,h2⟩ hc
   ·exact absurd ⟨h1,h2⟩ hc
   ·exact .inl ⟨3,by decide,by decide,by decide,H.1,ho,H.2⟩
   ·rw [h] at hps;simp at hps
  ·rw [if_neg hps] at H
   have hz:ps=[]:=List.eq_nil_of_length_eq_zero (by omega);subst hz;have ho:O= .ok (ns++[p]) [d]:=by
    rcases hcase with⟨h,_⟩ |⟨h1,h2,_⟩ |⟨h1,h2,_⟩ |⟨_,_,h,_⟩ |⟨_,_,_,ho⟩
    ·exact absurd h hK2
    ·exact absurd ⟨h1,h2⟩ hc
    ·exact absurd ⟨h1,h2⟩ hc
    ·exact absurd h hps
    ·exact ho
   obtain⟨he,hwk,ht⟩:=H;have hl:(ts++[t]++[(⟨childS t.S p,d.K,(lv:Int),(nd:Int),[]⟩:Tg)]).length=ts.length+2:=by simp
   have e1:upK (ts.length+2) []=ts.length+2:=rfl;rw [e1,←hl,List.take_length] at hwk;have hal:=hE.snoc hQ;rw [h0] at hal;refine .inr ⟨he,_,_,_,hwk,ht,⟨.inl ⟨rfl,ts++[t],_,ns++[p],[d],rfl,by simp;omega,ho,.inr ⟨lv,nd,d,rfl,h2,h1,rfl,rfl,rfl,rfl⟩,by rw [Jgc,hS],fun n hn'=>?_,by simp;omega,hal,(fun _ h=>by cases h),.inr ⟨hK2,rfl,ns,p,t.Q,Q0,(lv,nd),rfl,hq,h5,h6,rfl,rfl⟩⟩,(fun q hq=>by cases hq),hh,(show 0+(40 - h)*520≤30000 by omega)⟩,(show (40 - h)*128+0<(40 - h)*128+(0+1) by omega)⟩;rcases List.mem_append.1 hn' with h |h
   ·exact hn n h
   ·rw [List.mem_singleton.1 h];exact⟨hs p (List.mem_cons_self ..),hp⟩
end

theorem Jny {w:World} {A:Option Addr} {B:Nat}:Plc w B A []:=fun i x h=>by simp at h
theorem Jpp {w:World} {A:Option Addr} {B:Nat} {Q:List (Nat×Nat)} {x:Nat×Nat} (h:Plc w B A Q) (hx:Q[0]?=some x):A≠none:=fun e=>by
 obtain⟨b,off,h1,_⟩:=h 0 x hx;rw [e] at h1;cases h1
def Found (R:List Nd) (f:Bool) (O:AtO) (g:Nat) (ts:List Tg) (t:Tg) (p:ByteArray) (ps:List ByteArray) (h:Nat) (stk:Value) (w1:World) (en:Ending) (w2:World):Prop:=
 ∃(K l i:Int) (Af:Option Addr) (nf cf:Nat) (there:Bool) (x:ByteArray),en= .returned (.tuple #[.agg #[.int .i64 K,.int .i64 l,.int .i64 i,.slice Af nf cf],.bool there])∧Below w1.heap.size w1 w2∧
  (∀w':World,Below w2.heap.size w2 w'→Calls prog 31 #[stk,.agg #[.int .i64 K,.int .i64 l,.int .i64 i,.slice Af nf cf]] w' fun e w''=>e= .returned (.string x)∧Below w'.heap.size w' w'')∧
  (∀w':World,Below w2.heap.size w2 w'→Wkr w' g (ts++[t]) (p::ps) f h→Calls prog 30 #[.pointer (some ⟨g,0,none⟩),.agg #[.int .i64 K,.int .i64 l,.int .i64 i,.slice Af nf cf],.bool there,.string x] w' (Stepped R f O g ps h w'))
theorem Jod {R:List Nd} {f:Bool} {O:AtO} {ts:List Tg} {t:Tg} {ns ps:List ByteArray} {p:ByteArray} {h:Nat} {E Q':List Nd} {g:Nat} (hg:∀t∈R,allB t=true) (hk:∀d∈R,depth d<100) (hR:R.length≤64) (hw:WayD R (ts++[t]) ns) (hL:Leads R f ns (p::ps) (40 - h) O) (hp:p≠dd)
  (hn:∀n∈ns,NmD n) (hs:∀q∈p::ps,Nm q) (hh:h≤40) (hf:(p::ps).length+(40 - h)*520≤30000) (hE:Along (D0 R) ns E) (hQ:EntN p E Q') (hS:t.S=pathOf ns) (hq:PlQ R ns t.Q)
  (A:Option Addr) (c:Nat) (ad:Int) (L:List (Nat×Int)) (m:Int) {w1 w2:World} {en:Ending} (hst:StkM w1 A L (tabs R)) (hm:w1.cell? ⟨0,0,none⟩=some (.int .i64 m)) (H:SawP R t.Q E p Q' w1 en w2):
  Found R f O g ts t p ps h (stkV A L.length c ad) w1 en w2:=by
 obtain⟨H,hb⟩:=H;have hst2:=hst.later hb;have hm2:=Jae hm hb;have hnl:=hw.deep hk;have htl:ts.length=ns.length:=by have:=hw.1;simp at this;omega
 have hSz:t.S.size≤1000000000:=by
  have h1:=Jgh ns ⟨#[47]⟩ fun n h=>(hn n h).1.1;rw [hS];unfold pathOf;have h2:(⟨#[47]⟩:ByteArray).size=1:=rfl;omega
 have hpz:=(hs p (List.mem_cons_self ..)).1;rw [List.length_cons] at hf;have hgE:=(hE.good (Good.root hg)).seen hQ;have hql:(seenOf Q').length≤64:=by
  have h1:=Jel Q';have h2:=hQ.len;have h3:=hE.len;have h4:=Jgr R;omega
 have hqs:∀(x:ByteArray) (Q:List ByteArray),parts x.data.toList=some (Q.map fun y=>y.data.toList)→Q.length≤1000000:=fun x Q hq=>by
  have:=Jb4 hq;rw [List.length_map] at this;omega
 have hz0:(⟨#[]⟩:ByteArray).size≤1000000000:=by decide
 rcases H with⟨h1,rfl⟩ |⟨⟨lv,nd⟩,d,Q0,h1,h2,h3,_,rfl,hq1,hq2⟩ |⟨⟨lv,nd⟩,d,Q,A',c',Q0,h1,h2,h3,_,h5,h6,h7,h8,rfl,h9,h10,hq1,_,hq2⟩
 ·refine⟨0,0,0,none,0,0,false,⟨#[]⟩,rfl,hb,fun w' hb'=>?_,fun w' hb' hwk=>?_⟩
  ·exact (Jfs A L.length c ad 0 0 0 none 0 0 w' (by decide))
  ·exact (Jh3 w' g ts t p ps f h 0 0 0 [] none 0 false ⟨#[]⟩ m hwk Jny (fun _=>⟨rfl,rfl⟩) (Jae hm2 hb') hz0 (by simp) (by omega) hSz (by omega) (by omega) (hqs _) (by omega)).mono fun e w'' H=>Jnm hg hL hp hE hQ h1 H
 ·obtain⟨x,hx1,hx2,hx3⟩:∃x:ByteArray,(∀w':World,Below w2.heap.size w2 w'→Calls prog 31 #[stkV A L.length c ad,.agg #[.int .i64 d.K,.int .i64 (lv:Int),.int .i64 (nd:Int),.slice none 0 0]] w' fun e w''=>e= .returned (.string x)∧Below w'.heap.size w' w'')∧(d.K=3→x=d.T)∧x.size≤1000000000:=by
   by_cases hK:d.K=3
   ·refine⟨d.T,fun w' hb'=>?_,fun _=>rfl,?_⟩
    ·rw [hK]
     exact (Jqe A c ad L lv nd d none 0 0 w' (hst2.later hb') h2)
    ·have:=(Jcv (hgE.one (by rw [h1];exact List.mem_cons_self ..)) hK).1
     omega
   ·refine⟨⟨#[]⟩,fun w' hb'=>?_,fun h=>absurd h hK,hz0⟩
    exact (Jfs A L.length c ad d.K lv nd none 0 0 w' hK)
  refine⟨d.K,lv,nd,none,0,0,true,x,rfl,hb,hx1,fun w' hb' hwk=>?_⟩;exact (Jh3 w' g ts t p ps f h d.K lv nd [] none 0 true x m hwk Jny (fun _=>⟨rfl,rfl⟩) (Jae hm2 hb') hx3 (by simp) (by omega) hSz (by omega) (by omega) (hqs _) (by omega)).mono fun e w'' H=>
   Jmg hg hk hw hL hp hn hs hh (by rw [List.length_cons];exact hf) hE hQ hS h1 h2 h3 hx2 hq hq1 hq2 H
 ·have hlen:=h5.length
  rw [h3];refine⟨2,lv,nd,A',Q.length,c',true,⟨#[]⟩,rfl,hb,fun w' hb'=>?_,fun w' hb' hwk=>?_⟩
  ·exact (Jfs A L.length c ad 2 lv nd A' Q.length c' w' (by decide))
  ·exact (Jh3 w' g ts t p ps f h 2 lv nd Q A' c' true ⟨#[]⟩ m hwk ((h9.keep hb').more hb'.size) (fun e=>absurd e (Jpp h9 h7)) (Jae hm2 hb') hz0 (by omega) (by omega) hSz (by omega) (by omega) (hqs _) (by omega)).mono fun e w'' H=>
    Jq4 hg hk hw hL hp hn hs hh (by rw [List.length_cons];exact hf) hE hQ hS (fun e=>by rw [e] at h1;simp at h1) h5 h6 h7 h8 hq hq1 hq2 H
theorem Stepped.nr {R:List Nd} {f:Bool} {O:AtO} {g:Nat} {ps:List ByteArray} {h:Nat} {w w':World} {e:Ending} (H:Stepped R f O g ps h w e w'):∃k:Int,e= .returned (.int .i64 k)∧Tur g w w'∧((k≠0∧0≤k∧k≤9∧O= .err k)∨
    (k=0∧∃ts2 ps2 h2,Wkr w' g ts2 ps2 f h2∧Inv R f O ts2 ps2 h2∧(40 - h2)*128+ps2.length<(40 - h)*128+(ps.length+1))):=by
  rcases H with⟨k,h1,h2,h3,h4,h5,h6⟩ |⟨h1,ts2,ps2,h2,h3,h4,h5,h6⟩
  ·exact⟨k,h4,Tur.below h6,.inl ⟨h1,h2,h3,h5⟩⟩
  ·exact⟨0,h1,h4,.inr ⟨rfl,ts2,ps2,h2,h3,h5,h6⟩⟩
end Go.Proofs.YtkjpgheealfedaaGreatDoor.wlk
