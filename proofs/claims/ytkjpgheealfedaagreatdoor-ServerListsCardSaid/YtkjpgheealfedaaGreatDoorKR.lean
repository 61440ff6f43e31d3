import Derived.Test.YtkjpgheealfedaaGreatDoorKM
import Derived.Test.YtkjpgheealfedaaGreatDoorJU3
set_option maxRecDepth 100000
open Go.Proofs.Tryz
namespace Go.Proofs.YtkjpgheealfedaaGreatDoor.svr
open Go.RowKit Go.Maps words ext name tre stk Go.Proofs.YtkjpgheealfedaaGreatDoor.seen wlk uni lru

theorem Jtq {p:ByteArray} (h:NmD p):p.size≤64:=by
 obtain⟨⟨_,hi,hb,_⟩,hd⟩:=h;have hr:right p.data.toList=true:=by
  rcases hr:right p.data.toList with _ |_
  ·exfalso
   unfold bad at hb;rw [hi,hr] at hb;rcases h2:(p.data.toList==[46,46]) with _ |_
   ·rw [h2] at hb;cases hb
   ·exact hd (Jse (by rw [eq_of_beq h2];rfl))
  ·rfl
 unfold right at hr;simp only [Bool.and_eq_true,decide_eq_true_eq] at hr;have:=name.size_list p;omega
theorem fold_size:∀(ns:List ByteArray) (s0:ByteArray),(∀n∈ns,NmD n)→(ns.foldl childS s0).size≤s0.size+ns.length*65
 |[],s0,_=>by simp
 |n::ns,s0,h=>by
  have h1:=fold_size ns (childS s0 n) fun m hm=>h m (List.mem_cons_of_mem _ hm);have h2:=Jfo s0 n;have h3:=Jtq (h n (List.mem_cons_self ..));rw [List.foldl_cons,List.length_cons,Nat.add_mul];omega
theorem Jqo {w:World} {B:Nat} {A:Option Addr} {T:List Nd} {rs:Nat→Raw} (hT:Trees w B A T rs) (hm:mayB T=true):∀(x:Nat×Nat) (d:Nd),seen.At T.reverse x d→d.N.length≤4096:=fun x d h=>by
 have hone:=h.one (Job hT hm).rev.all;obtain⟨t,ht,hd⟩:=h;have htm:t∈T:=List.mem_reverse.1 (List.mem_of_getElem? ht);obtain⟨i,hi⟩:=List.mem_iff_getElem?.1 htm;have hok:=Jjs (Jc1 hm t htm).1 (hT i t hi).2.tame (Jc1 hm t htm).2;have h1:=hok.cnt;have h2:=(Jhf t d (List.mem_of_getElem? hd)).2.1;have h3:d.I.length≤countL d.I:=Jep d.I;have h4:count d=1+countL d.I:=Jbq d;have h5:=(Jbd hone).2.1;omega
theorem Jkx {R:List Nd}:∀{ns:List ByteArray} {D E:List Nd},Along D ns E→(∀d∈D,∃x,seen.At R x d)→∀d∈E,∃x,seen.At R x d
 |[],D,E,h,hD=>by rw [Jbx] at h;rw [h];exact hD
 |n::ns,D,E,h,hD=>by
  obtain⟨Q,h1,h2⟩:=Jat.1 h;refine Jkx h2 fun q hq=>?_;obtain⟨d,hd,i,hi,_⟩:=Jj5 h1 q (Jen Q q hq);obtain⟨x,t,ht,hk⟩:=hD d hd;exact⟨(x.1,x.2+1+countL (d.I.take i)),t,ht,Je6 hk hi⟩
theorem Jsb {R:List Nd}:∀d∈D0 R,∃x,seen.At R x d:=fun d hd=>by
 obtain⟨i,hi⟩:=List.mem_iff_getElem?.1 (List.mem_of_mem_take hd);exact⟨(i,0),d,hi,by cases d;rfl⟩
theorem Jlq {R:List Nd} (hg:∀t∈R,allB t=true) (hR:R.length≤64) (hct:∀x d,seen.At R x d→d.N.length≤4096) {f:Bool} {s:ByteArray} {ns:List ByteArray} {E:List Nd} (h:Goes R f s (.ok ns E)):(∀d∈E,d.N.length≤4096)∧E.length≤64:=by
 have ha:=(Jm8 hg h).1;refine⟨fun d hd=>?_,?_⟩
 ·obtain⟨x,hx⟩:=Jkx ha Jsb d hd
  exact hct x d hx
 ·have h1:=ha.len
  have h2:=Jgr R;omega
theorem Jls {α:Type} [DecidableEq α]:∀(N M:List α),N.Nodup→(∀s∈N,s∈M)→N.length≤M.length
 |[],_,_,_=>Nat.zero_le _
 |a::N,M,hn,hm=>by
  have ha:=List.nodup_cons.1 hn;have h1:=Jls N (M.erase a) ha.2 fun s hs=>(List.mem_erase_of_ne (by rintro rfl;exact ha.1 hs)).2 (hm s (List.mem_cons_of_mem _ hs));have h2:=List.length_erase_of_mem (hm a (List.mem_cons_self ..));have h3:=List.length_pos_of_mem (hm a (List.mem_cons_self ..));rw [List.length_cons];omega
theorem Jia:∀(E:List Nd),(∀d∈E,d.N.length≤4096)→(mrg.namesOf E).length≤E.length*4096
 |[],_=>by simp [mrg.namesOf]
 |d::E,h=>by
  have ih:=Jia E fun x hx=>h x (List.mem_cons_of_mem _ hx);have hd:=h d (List.mem_cons_self ..);unfold mrg.namesOf at ih ⊢;rw [List.flatMap_cons,List.length_append,List.length_cons,Nat.add_mul];omega
theorem Jnn {N:List ByteArray} (h:heap.Ris N):N.Nodup:=h.imp fun hab e=>by
 subst e;rw [heap.ltB_self] at hab;cases hab
def RefL (O:AtO) (l:List (ByteArray×Int)):Prop:=
 (lsE O≠0∧l=[])∨∃ns E N,O= .ok ns E∧lsE O=0∧heap.Ris N∧(∀s,s∈N↔s∈mrg.namesOf E)∧mrg.LstK E N l
theorem Jry {O:AtO} {w w':World} {e:Ending} (h:RlOwn O w e w') (hf:∀ns E,O= .ok ns E→(∀d∈E,d.N.length≤4096)∧E.length≤64):
  ∃(l:List (ByteArray×Int)) (A1:Option Addr) (n1 c1:Nat) (A2:Option Addr) (c2:Nat) (z:Int),e= .returned (.tuple #[.slice A1 n1 c1,.slice A2 l.length c2,.int .i64 z])∧
   (∃B0,w'.ownsRow B0 56 2 (.slice A2 l.length c2) l.length (l.flatMap mrg.enC))∧RefL O l∧l.length≤1000000:=by
 obtain⟨⟨h1,rfl⟩ |⟨ns,E,N,E2,A1,c1,A2,c2,h1,h2,h3,h4,h5,h6,rfl,h7,h8⟩,hb⟩:=h
 ·exact⟨[],none,0,0,none,0,_,rfl,⟨0,World.ownsRow_nil _ _ _ _⟩,.inl ⟨h1,rfl⟩,Nat.zero_le _⟩
 ·obtain⟨f1,f2⟩:=hf ns E h1
  refine⟨E2,A1,ns.length,c1,A2,c2,0,rfl,h8,.inr ⟨ns,E,N,h1,h2,h3,h4,h5⟩,?_⟩;have q1:=Jls N _ (Jnn h3) fun s hs=>(h4 s).1 hs;have q2:=Jia E f1;have q3:E.length*4096≤64*4096:=Nat.mul_le_mul_right _ f2;omega
theorem Jo3 {R:List Nd} (hg:∀t∈R,allB t=true) (hK:∀t∈R,t.K=2) (hk:∀d∈R,depth d<100) (hR:R.length≤64) (hct:∀x d,seen.At R x d→d.N.length≤4096) {v w:World} {A:Option Addr} {L:List (Nat×Int)} (hst:StkM v A L (tabs R)) (hb:Below v.heap.size v w) (c:Nat) (ad mx:Int)
  (hm:v.cell? ⟨0,0,none⟩=some (.int .i64 mx)) {p:ByteArray} (hp:p.size≤1000000) {O:AtO} (hO:Goes R true p O) {l:List (ByteArray×Int)} (hr:RefL O l):Lists w v.heap.size A L.length c ad p l:=fun w' hkp=>by
 have hb':=hb.trans (hkp.below hb.size);refine (Jiv hg hK hk hR hct A c ad L mx p w' (hst.later hb') (Jae hm hb') hp hO).mono ?_;rintro e w2 ⟨⟨h1,rfl⟩ |⟨ns,E,El,Al,cl,hOe,hz,_,_,_,_,hal,_,⟨out,hmg,hkd⟩,_,rfl,ho⟩,hb2⟩
 ·rcases hr with⟨_,rfl⟩ |⟨_,_,_,_,hz,_⟩
  ·exact⟨_,_,none,0,rfl,lca.Enr.nil _ _,hb2⟩
  ·exact absurd hz h1
 ·rcases hr with⟨h,_⟩ |⟨ns2,E',N,hO2,_,hris,hmem,hlk⟩
  ·exact absurd hz h
  ·rw [hOe] at hO2
   injection hO2 with e1 e2;subst e1 e2;obtain rfl:=mrg.listed_ref (hal.good (wlk.Good.root hg)).asc hmg hkd hris hmem hlk;exact⟨_,_,Al,cl,rfl,ho,hb2⟩
theorem Jr1 (k:ByteArray) (v:lrl.Lst) {r:Nat} (hr:1≤r):putL [] r k v=[(k,v)]:=(Jhx (κ:=ByteArray) (ν:=lrl.Lst) (L:=[]) (k:=k) (fun p hp=>by cases hp) (by simp;omega) v k).1
theorem Jqx (k:ByteArray) (v:lrl.Lst):lrl.gotB [(k,v)] k=true∧lrl.gotI [(k,v)] k=v∧getL [(k,v)] k=[(k,v)]:=by
 have hv:val [(k,v)] k=some v:=by simp [val]
 refine⟨by unfold lrl.gotB;rw [hv];rfl,by unfold lrl.gotI;rw [hv];rfl,?_⟩;unfold getL;rw [hv];simp [rest]
theorem Jl1 {gs:List Nat} {i g r n:Nat} {bo:Option Nat} {L:List (ByteArray×lrl.Lst)} (h:gs.length=3) (hi:i<3):sha.mostF (lca.nsOf ((shl.news gs r).set i ⟨g,bo,n,L⟩))=L.length:=by
 obtain⟨a,b,c,rfl⟩:∃a b c,gs=[a,b,c]:=by
  match gs,h with
  |[a,b,c],_=>exact⟨a,b,c,rfl⟩
 have h2:i=0∨i=1∨i=2:=by omega
 rcases h2 with rfl |rfl |rfl
 ·simp [shl.news,lca.nsOf,sha.mostF]
 ·simp [shl.news,lca.nsOf,sha.mostF]
 ·simp [shl.news,lca.nsOf,sha.mostF]
def Lsd (B:Nat) (b:Bk) (D:Sd) (i g r:Nat) (p:ByteArray) (l:List (ByteArray×Int)) (k:Nat) (w:World):Prop:=
 (k=0∧Sv w B b D)∨(0<k∧∃bo A3 c3 lo,Sv w B b {D with Ls:=D.Ls.set i ⟨g,bo,r,[(p,⟨D.ep,A3,l.length,c3⟩)]⟩,z:=1}∧lca.Enr w lo (.slice A3 l.length c3) l)
theorem Lsd.later {B:Nat} {b:Bk} {D:Sd} {i g r k:Nat} {p:ByteArray} {l:List (ByteArray×Int)} {w w':World} (h:Lsd B b D i g r p l k w) (hb:Below w.heap.size w w'):Lsd B b D i g r p l k w':=by
 rcases h with⟨h1,h2⟩ |⟨h1,bo,A3,c3,lo,h2,h3⟩
 ·exact .inl ⟨h1,h2.later hb⟩
 ·exact .inr ⟨h1,bo,A3,c3,lo,h2.later hb,h3.later hb⟩
theorem Jqg {B:Nat} {b:Bk} {D:Sd} {i g r k:Nat} {p:ByteArray} {l:List (ByteArray×Int)} {w:World} (h:Lsd B b D i g r p l k w) (hB:B≤w.heap.size) (hpos:0<D.Ls.length) (hfew:D.Ls.length≤256) (hi:i=sha.ofF p D.Ls.length) (hat:D.Ls[i]?=some ⟨g,none,r,[]⟩) (hr:1≤r) (hz:D.z=0) (hp:p.size≤1000000) (hl:l.length≤1000000)
  (hL:Lists w B D.A D.L.length D.c D.ad p l):
  Calls prog 11 #[.pointer (some ⟨b.v,0,none⟩),.string p] w fun e w'=>(∃Al cl,e= .returned (.slice Al l.length cl)∧lca.Enr w' w.heap.size (.slice Al l.length cl) l)∧Lsd B b D i g r p l (k+1) w'∧Kept lca.DS B w w':=by
 have hlt:i<D.Ls.length:=(List.getElem?_eq_some_iff.1 hat).1;rcases h with⟨rfl,h⟩ |⟨hk,bo,A3,c3,lo,h,he⟩
 ·refine (Jlb (i:=i) (c:=⟨g,none,r,[]⟩) h hB ⟨hpos,hfew,hi,hat,Nat.zero_le _,hp⟩ (by omega) rfl hl hL).mono ?_
  rintro e w' ⟨Al,cl,Ls,rfl,he,⟨bo,A2,c2,rfl,he2⟩,hs,hk⟩;refine⟨⟨Al,cl,rfl,he⟩,.inr ⟨by omega,bo,A2,c2,_,?_,he2⟩,hk⟩;rw [Jr1 p _ hr,hz] at hs;exact hs
 ·obtain⟨g1,g2,g3⟩:=Jqx p ⟨D.ep,A3,l.length,c3⟩
  refine (Jqz (i:=i) (c:=⟨g,bo,r,[(p,⟨D.ep,A3,l.length,c3⟩)]⟩) h ⟨?_,?_,?_,?_,by simp,hp⟩ lo hl ⟨g1,by rw [g2],by rw [g2],by rw [g2];exact he⟩).mono ?_
  ·show 0<(D.Ls.set i _).length
   rw [List.length_set];exact hpos
  ·show (D.Ls.set i _).length≤256
   rw [List.length_set];exact hfew
  ·show i=sha.ofF p (D.Ls.set i _).length
   rw [List.length_set];exact hi
  ·show (D.Ls.set i _)[i]?=_
   rw [List.getElem?_set_self hlt]
  ·rintro e w' ⟨Al,cl,Ls,rfl,he2,⟨bo2,rfl⟩,hs,hk2⟩
   refine⟨⟨Al,cl,rfl,he2⟩,.inr ⟨by omega,bo2,A3,c3,lo,?_,he.kept hk2 (by unfold lca.DS;decide)⟩,hk2⟩;rw [g3] at hs;simp only [List.set_set] at hs;exact hs
end Go.Proofs.YtkjpgheealfedaaGreatDoor.svr
