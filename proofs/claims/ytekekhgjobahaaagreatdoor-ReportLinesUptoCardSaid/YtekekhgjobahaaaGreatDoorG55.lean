import Derived.Test.YtekekhgjobahaaaGreatDoorG53
set_option maxRecDepth 100000
namespace Go.Proofs.YtekekhgjobahaaaGreatDoor.scr
open Go.RowKit words cal

structure Scr (w:World) (S:ScB) (Ai Ac Ap:Option Addr):Prop where
 im:∀(i:Nat) x,S.im[i]?=some x→∃b off,Ai=some ⟨b,off,none⟩∧b<w.heap.size∧w.cell? ⟨b,off+i,none⟩=some (.string x)
 cl:∀(i:Nat) l,S.cl[i]?=some l→∃b off A2 c2,Ac=some ⟨b,off,none⟩∧b<w.heap.size∧w.cell? ⟨b,off+i,none⟩=some (.slice A2 l.length c2)∧
  ∀(j:Nat) o,l[j]?=some o→∃b2 off2,A2=some ⟨b2,off2,none⟩∧b2<w.heap.size∧∀(k:Nat) u,o.c[k]?=some u→w.cell? ⟨b2,off2+j*6+k,none⟩=some u
 pk:∀(i:Nat) x,S.pk[i]?=some x→∃b off,Ap=some ⟨b,off,none⟩∧b<w.heap.size∧w.cell? ⟨b,off+i,none⟩=some (.int .i64 x)
theorem Scr.later {w w':World} {S:ScB} {Ai Ac Ap:Option Addr} (h:Scr w S Ai Ac Ap) (hb:Below w.heap.size w w'):Scr w' S Ai Ac Ap:=by
 have k:∀{b o:Nat} {v:Value},b<w.heap.size→w.cell? ⟨b,o,none⟩=some v→w'.cell? ⟨b,o,none⟩=some v:=fun {b o v} hl hv=>(hb.cell (p:=⟨b,o,none⟩) hl).trans hv;refine⟨fun i x hx=>?_,fun i l hl=>?_,fun i x hx=>?_⟩
 ·obtain⟨b,off,h1,h2,h3⟩:=h.im i x hx
  exact⟨b,off,h1,Nat.lt_of_lt_of_le h2 hb.size,k h2 h3⟩
 ·obtain⟨b,off,A2,c2,h1,h2,h3,h4⟩:=h.cl i l hl
  refine⟨b,off,A2,c2,h1,Nat.lt_of_lt_of_le h2 hb.size,k h2 h3,fun j o ho=>?_⟩;obtain⟨b2,off2,h5,h6,h7⟩:=h4 j o ho;exact⟨b2,off2,h5,Nat.lt_of_lt_of_le h6 hb.size,fun q u hu=>k h6 (h7 q u hu)⟩
 ·obtain⟨b,off,h1,h2,h3⟩:=h.pk i x hx
  exact⟨b,off,h1,Nat.lt_of_lt_of_le h2 hb.size,k h2 h3⟩
theorem Jjm {l:List OpB} {j:Nat} {o:OpB} (h:l[j]?=some o) {k:Nat} {u:Value} (hu:o.c[k]?=some u):(opCells l)[j*6+k]?=some u:=by
 have hk:k<6:=by
  have:=(List.getElem?_eq_some_iff.1 hu).1;simpa [OpB.c] using this
 induction l generalizing j with
 |nil=>cases h
 |cons x l ih=>
  have hlen:x.c.length=6:=rfl;show (x.c++opCells l)[j*6+k]?=some u;cases j with
  |zero=>
   obtain rfl:x=o:=by simpa using h
   rw [List.getElem?_append_left (by omega)];simpa using hu
  |succ j=>
   rw [List.getElem?_append_right (by omega)];have:(j+1)*6+k - x.c.length=j*6+k:=by omega
   rw [this];exact ih (by simpa using h)
theorem Own.form {w:World} {B:Nat} {S:ScB} {vi vc vp:Value} (h:Own w B S vi vc vp):∃Ai ci Ac cc Ap cp,vi= .slice Ai S.im.length ci∧vc= .slice Ac S.cl.length cc∧vp= .slice Ap S.pk.length cp∧Scr w S Ai Ac Ap:=by
 obtain⟨vs,h1,h2,h3,_⟩:=h.cl;obtain⟨Ai,ci,e1,_⟩:=lru.own_facts h.im;obtain⟨Ac,cc,e2,_⟩:=lru.own_facts h1;obtain⟨Ap,cp,e3,_⟩:=lru.own_facts h.pk;refine⟨Ai,ci,Ac,cc,Ap,cp,e1,e2,e3,fun i x hx=>?_,fun i l hl=>?_,fun i x hx=>?_⟩
 ·obtain⟨g,c,q1,_,q2,q3⟩:=lru.own_at h.im (j:=i) (u:= .string x) (by rw [List.getElem?_map,hx];rfl)
  rw [e1] at q1;injection q1 with q1;exact⟨g,0,q1,q2,by rw [Nat.zero_add];exact q3⟩
 ·have hi:i<S.cl.length:=(List.getElem?_eq_some_iff.1 hl).1
  obtain⟨v,hv⟩:∃v,vs[i]?=some v:=⟨_,List.getElem?_eq_getElem (by omega)⟩
  obtain⟨g,c,q1,_,q2,q3⟩:=lru.own_at h1 hv;rw [e2] at q1;injection q1 with q1;have hr:=h3 i v l hv hl;obtain⟨A2,c2,e4,_⟩:=lru.own_facts hr;subst e4;refine⟨g,0,A2,c2,q1,q2,by rw [Nat.zero_add];exact q3,fun j o ho=>?_⟩;obtain⟨g2,_,q4,_,q5,_⟩:=lru.own_at hr (j:=j*6+0) (u:= .int .i64 o.K) (Jjm ho rfl);injection q4 with q4;refine⟨g2,0,q4,q5,fun k u hu=>?_⟩;obtain⟨g3,_,q6,_,_,q7⟩:=lru.own_at hr (j:=j*6+k) (u:=u) (Jjm ho hu);injection q6 with q6;rw [q4] at q6;injection q6 with q6;injection q6 with q6;subst q6;rw [Nat.zero_add];exact q7
 ·obtain⟨g,c,q1,_,q2,q3⟩:=lru.own_at h.pk (j:=i) (u:= .int .i64 x) (by rw [List.getElem?_map,hx];rfl)
  rw [e3] at q1;injection q1 with q1;exact⟨g,0,q1,q2,by rw [Nat.zero_add];exact q3⟩


theorem Jaj {n:Int} (hn:I64 n) {r:ByteArray} (h:r.data.toList=Lib.itoa n):r.size≤21:=by
 rw [←size_list,h];exact Lib.itoa_length_le n hn.1 hn.2
def p1 (s:Sc) (i:Nat):List (List UInt8):=roomL s::(s.im.take i).map imageL
def p2 (s:Sc) (i:Nat):List (List UInt8):=roomL s::(s.im.map imageL++(s.cl.take i).flatMap clientL)
def p3 (s:Sc) (i:Nat) (l:List cal.Op) (j:Nat):List (List UInt8):=p2 s i++clientW::(l.take j).map textM
def p4 (s:Sc) (i:Nat):List UInt8:=textT (p2 s s.cl.length)++pickW++(s.pk.take i).flatMap fun n=>32::Lib.itoa n


theorem Jbd {B b:Nat} {l:List UInt8} {w w':World} (h:Wrt B b l w) (hb:Below w.heap.size w w'):Wrt B b l w':=by
 rcases h with⟨hB,v,hk,ho,hn⟩ |h
 ·exact .inl ⟨hB,v,(hb.block _ (lt_of_some hk)).trans hk,Jac ho hb,hn⟩
 ·exact .inr (Jiv h hb)
end Go.Proofs.YtekekhgjobahaaaGreatDoor.scr
