import Derived.Test.YtkjpgheealfedaaGreatDoorJO
import Derived.Test.YtkjpgheealfedaaGreatDoorJW2
set_option maxHeartbeats 3200000
set_option maxRecDepth 100000
open Go.Lib (hid)
open Go.Proofs.Tryz
namespace Go.Proofs.YtkjpgheealfedaaGreatDoor.wlk
open Go.RowKit words ext name tre stk Go.Proofs.YtkjpgheealfedaaGreatDoor.seen

structure Tg where
 S:ByteArray
 K:Int
 l:Int
 i:Int
 Q:List (Nat×Nat)
def tgC (t:Tg) (A:Option Addr) (c:Nat):List Value:=[.string t.S,.int .i64 t.K,.int .i64 t.l,.int .i64 t.i,.slice A t.Q.length c]
structure TgAt (w:World) (B:Nat) (b o:Nat) (t:Tg) (A:Option Addr) (c:Nat):Prop where
 lt:b<B
 c0:w.cell? ⟨b,o,none⟩=some (.string t.S)
 c1:w.cell? ⟨b,o+1,none⟩=some (.int .i64 t.K)
 c2:w.cell? ⟨b,o+2,none⟩=some (.int .i64 t.l)
 c3:w.cell? ⟨b,o+3,none⟩=some (.int .i64 t.i)
 c4:w.cell? ⟨b,o+4,none⟩=some (.slice A t.Q.length c)
 plc:Plc w B A t.Q
 len:t.Q.length≤c
 nil:A=none→t.Q.length=0∧c=0
def Way (w:World) (B:Nat) (A:Option Addr) (ts:List Tg):Prop:=∀(k:Nat) (t:Tg),ts[k]?=some t→∃b off Aq cq,A=some ⟨b,off,none⟩∧TgAt w B b (off+k*5) t Aq cq
theorem Way.take {w:World} {B:Nat} {A:Option Addr} {ts:List Tg} (h:Way w B A ts) (n:Nat):Way w B A (ts.take n):=fun k t hk=>h k t (by
  rw [List.getElem?_take] at hk;split at hk
  ·exact hk
  ·cases hk)
structure Tur (g:Nat) (w w':World):Prop where
 os:w'.os=w.os
 tape:w'.tape=w.tape
 output:w'.output=w.output
 size:w.heap.size≤w'.heap.size
 block:∀k,k<w.heap.size→k≠g→w'.heap[k]?=w.heap[k]?
theorem Tur.refl (g:Nat) (w:World):Tur g w w:=⟨rfl,rfl,rfl,Nat.le_refl _,fun _ _ _=>rfl⟩
theorem Tur.trans {g:Nat} {a b c:World} (h1:Tur g a b) (h2:Tur g b c):Tur g a c:=
 ⟨h2.os.trans h1.os,h2.tape.trans h1.tape,h2.output.trans h1.output,Nat.le_trans h1.size h2.size,fun k hk hg=>(h2.block k (Nat.lt_of_lt_of_le hk h1.size) hg).trans (h1.block k hk hg)⟩
theorem Tur.below {g:Nat} {a b:World} (h:Below a.heap.size a b):Tur g a b:=⟨h.os,h.tape,h.output,h.size,fun k hk _=>h.block k hk⟩
theorem Tur.drew {g:Nat} {a b:World} (h:Tur g a b):Tur g a b.drew:=⟨h.os,h.tape,h.output,h.size,h.block⟩
theorem Tur.set {g:Nat} {a b:World} (h:Tur g a b) (i:Nat) (v:Value):Tur g a (b.setCell ⟨g,i,none⟩ v):=
 ⟨h.os,h.tape,h.output,by simpa using h.size,fun k hk hg=>(heap_setCell_other _ _ _ _ hg).trans (h.block k hk hg)⟩
theorem Tur.low {g B:Nat} {a b:World} (h:Tur g a b) (hB:B≤g) (hs:B≤a.heap.size):Below B a b:=⟨h.os,h.tape,h.output,h.size,fun k hk=>h.block k (by omega) (by omega)⟩
theorem Tur.cell {g:Nat} {a b:World} (h:Tur g a b) {p:Addr} (hp:p.block<a.heap.size) (hg:p.block≠g):b.cell? p=a.cell? p:=World.cell?_of_block (h.block _ hp hg)
def wkC (v0 v1:Value) (f:Bool) (h:Int):Obj:= .cells #[v0,v1,.bool f,.int .i64 h] 144 (0,0)
theorem Jq6 {w:World} {g b o:Nat} {A A1:Option Addr} {n c n1 c1:Nat} {f:Bool} {h:Int} {s:ByteArray} (hg:w.heap[g]?=some (wkC (.slice A n c) (.slice A1 n1 c1) f h)) (hc:w.cell? ⟨b,o,none⟩=some (.string s)):b≠g:=fun e=>by
 subst e;have h1:=Jaa hg o;rw [hc] at h1;rcases o with _ |_ |_ |_ |o<;>simp at h1
theorem Jsk {w:World} {g b o:Nat} {A A1:Option Addr} {n c n1 c1:Nat} {f:Bool} {h x y:Int} (hg:w.heap[g]?=some (wkC (.slice A n c) (.slice A1 n1 c1) f h)) (hc:w.cell? ⟨b,o,none⟩=some (.int .i64 x)) (hd:w.cell? ⟨b,o+1,none⟩=some (.int .i64 y)):b≠g:=fun e=>by
 subst e;have h1:=Jaa hg o;have h2:=Jaa hg (o+1);rw [hc] at h1;rw [hd] at h2;rcases o with _ |_ |_ |_ |o<;>simp at h1 h2
section turned
variable {w w':World} {g:Nat} {A A1:Option Addr} {n c n1 c1:Nat} {f:Bool} {h:Int}
theorem Tur.plc (ht:Tur g w w') (hg:w.heap[g]?=some (wkC (.slice A n c) (.slice A1 n1 c1) f h)) {Aq:Option Addr} {Q:List (Nat×Nat)} (hp:Plc w w.heap.size Aq Q):Plc w' w'.heap.size Aq Q:=fun i x hx=>by
 obtain⟨b,off,h1,h2,h3,h4⟩:=hp i x hx;have hne:=Jsk hg h3 h4;exact⟨b,off,h1,Nat.lt_of_lt_of_le h2 ht.size,(ht.cell (p:=⟨b,off+i*2,none⟩) h2 hne).trans h3,(ht.cell (p:=⟨b,off+i*2+1,none⟩) h2 hne).trans h4⟩
theorem Tur.row (ht:Tur g w w') (hg:w.heap[g]?=some (wkC (.slice A n c) (.slice A1 n1 c1) f h)) {Aq:Option Addr} {N:List ByteArray} (hp:heap.Row w w.heap.size Aq N):heap.Row w' w'.heap.size Aq N:=fun i x hx=>by
 obtain⟨b,off,h1,h2,h3⟩:=hp i x hx;exact⟨b,off,h1,Nat.lt_of_lt_of_le h2 ht.size,(ht.cell (p:=⟨b,off+i,none⟩) h2 (Jq6 hg h3)).trans h3⟩
theorem Tur.way (ht:Tur g w w') (hg:w.heap[g]?=some (wkC (.slice A n c) (.slice A1 n1 c1) f h)) {Aq:Option Addr} {ts:List Tg} (hp:Way w w.heap.size Aq ts):Way w' w'.heap.size Aq ts:=fun k t hk=>by
 obtain⟨b,off,Aq',cq,h1,h2⟩:=hp k t hk;have hne:=Jq6 hg h2.c0;exact⟨b,off,Aq',cq,h1,Nat.lt_of_lt_of_le h2.lt ht.size,(ht.cell (p:=⟨b,off+k*5,none⟩) h2.lt hne).trans h2.c0,(ht.cell (p:=⟨b,off+k*5+1,none⟩) h2.lt hne).trans h2.c1,
   (ht.cell (p:=⟨b,off+k*5+2,none⟩) h2.lt hne).trans h2.c2,(ht.cell (p:=⟨b,off+k*5+3,none⟩) h2.lt hne).trans h2.c3,(ht.cell (p:=⟨b,off+k*5+4,none⟩) h2.lt hne).trans h2.c4,ht.plc hg h2.plc,h2.len,h2.nil⟩
end turned
structure Wkr (w:World) (g:Nat) (ts:List Tg) (ps:List ByteArray) (f:Bool) (h:Nat):Prop where
 ex:∃A c Ap cp,w.heap[g]?=some (wkC (.slice A ts.length c) (.slice Ap ps.length cp) f (h:Int))∧ts.length≤c∧ps.length≤cp∧Way w w.heap.size A ts∧heap.Row w w.heap.size Ap ps
theorem Wkr.later {w w':World} {g:Nat} {ts:List Tg} {ps:List ByteArray} {f:Bool} {h:Nat} (hw:Wkr w g ts ps f h) (hb:Below w.heap.size w w'):Wkr w' g ts ps f h:=by
 obtain⟨A,c,Ap,cp,h1,h2,h3,h4,h5⟩:=hw.ex;exact⟨A,c,Ap,cp,(hb.block _ (lt_of_some h1)).trans h1,h2,h3,(Tur.below (g:=g) hb).way h1 h4,(Tur.below (g:=g) hb).row h1 h5⟩

def dd:ByteArray:=⟨#[46,46]⟩
def upK:Nat→List ByteArray→Nat
 |k,[]=>k
 |k,p::ps=>if p=dd then upK (max (k - 1) 1) ps else k
def restP:List ByteArray→List ByteArray
 |[]=>[]
 |p::ps=>if p=dd then restP ps else p::ps
theorem Je9:∀ps:List ByteArray,(restP ps).length≤ps.length
 |[]=>Nat.le_refl _
 |p::ps=>by
  have:=Je9 ps;unfold restP;split
  ·rw [List.length_cons];omega
  ·exact Nat.le_refl _
theorem Jos:∀(ps:List ByteArray) (k n:Nat),k≤n→1≤n→upK k ps≤n
 |[],k,n,h,_=>h
 |p::ps,k,n,h,h1=>by
  unfold upK;split
  ·exact Jos ps _ n (by omega) h1
  ·exact h
theorem Jo9:∀(ps:List ByteArray) (k:Nat),1≤k→1≤upK k ps
 |[],k,h=>h
 |p::ps,k,h=>by
  unfold upK;split
  ·exact Jo9 ps _ (by omega)
  ·exact h
theorem infoTg:(Tryz.prog.info? 39).map (fun i=>(i.zero,i.size,i.bytes))=some (some (.agg #[.string ⟨#[]⟩,.int .i64 0,.int .i64 0,.int .i64 0,.slice none 0 0]),5,64):=by kernel_rfl
theorem Jpe (A:Option Addr) (n cap i:Nat) (h:i≤cap) (wx:World):
  (Instr.slice 142 (.slice A n cap) none (some (.int .i64 (i:Int))) none).run prog wx= .ok (.slice A i cap) wx:=by
 obtain⟨i0,hi,hz0,hz1,hz2⟩:=info_parts infoTg;have he:Tryz.prog.elem 142=39:=by kernel_rfl
 rw [run_slice_h (P:=prog) wx 142 A n cap (by kernel_rfl) .i64 (i:Int) (by omega) (by omega),he];simp [sizeOf,typeInfo,hi,hz1,Result.andThen,sliced];rcases A with _ |A
 ·intro _;rfl
 ·simp [Addr.add]
theorem Jku (A:Option Addr) (n cap:Nat) (h:1≤n) (wx:World):
  (Instr.slice 47 (.slice A n cap) (some (.int .i64 1)) none none).run prog wx= .ok (.slice (if cap=1 then A else A.map (·.add 1)) (n - 1) (cap - 1)) wx:=by
 obtain⟨i0,hi,hz0,hz1,hz2⟩:=info_parts infoStr;have he:Tryz.prog.elem 47=9:=by kernel_rfl
 rw [run_slice_l (P:=prog) wx 47 A n cap (by kernel_rfl) .i64 1 (by omega) (by omega),he];simp [sizeOf,typeInfo,hi,hz1,Result.andThen,sliced]
theorem Jif {w:World} {B:Nat} {A:Option Addr} {p:ByteArray} {ps:List ByteArray} {cap:Nat} (h:heap.Row w B A (p::ps)) (hc:ps.length+1≤cap):heap.Row w B (if cap=1 then A else A.map (·.add 1)) ps:=fun i s hs=>by
 have hl:=(List.getElem?_eq_some_iff.1 hs).1;obtain⟨b,off,rfl,h2,h3⟩:=h (i+1) s (by simpa using hs);rw [if_neg (by omega)];exact⟨b,off+1,by simp [Addr.add],h2,by rw [show off+1+i=off+(i+1) by omega];exact h3⟩

structure GoI (w:World) (g:Nat) (A:Option Addr) (n c k:Nat) (v1:Value) (f:Bool) (h:Int) (wr:World):Prop where
 blk:wr.heap[g]?=some (wkC (.slice A k c) v1 f h)
 tur:Tur g w wr
def lenV:Value→Nat
 | .slice _ n _=>n
 |_=>0
theorem GoI.drew {w wr:World} {g n c k:Nat} {A:Option Addr} {v1:Value} {f:Bool} {h:Int} (hi:GoI w g A n c k v1 f h wr):GoI w g A n c k v1 f h wr.drew:=⟨hi.blk,hi.tur.drew⟩
theorem Jhq:dd.toList=[46,46]:=by rw [ByteArray.toList_eq];rfl
theorem Jfc (w:World) (g:Nat) (A A1 Ap:Option Addr) (c n1 c1 cp:Nat) (ts:List Tg) (ps:List ByteArray) (f:Bool) (h:Nat) (hg:w.heap[g]?=some (wkC (.slice A ts.length c) (.slice A1 n1 c1) f (h:Int)))
  (hc:ts.length≤c) (hcp:ps.length≤cp) (hW:Way w w.heap.size A ts) (hR:heap.Row w w.heap.size Ap ps) (h1:1≤ts.length) (htl:ts.length≤1000000000):
  Calls prog 60 #[.pointer (some ⟨g,0,none⟩),.slice Ap ps.length cp] w fun e w'=>(∃u,e= .returned u)∧Wkr w' g (ts.take (upK ts.length ps)) (restP ps) f h∧Tur g w w':=by
 have HI:Hid (GoI w g A ts.length c ts.length (.slice A1 n1 c1) f h w):=hid ⟨hg,Tur.refl _ _⟩;have HG:=hid hg;have HW:=hid hW;have HR:=hid hR;clear hg hW hR;go_enter func60,ntmps60
 go_wp2_with fail
 go_loopw [1] (fun v wr=>∃(k:Nat) (qs:List ByteArray) (Aq:Option Addr) (cq:Nat),v= .slice Aq qs.length cq∧1≤k∧k≤ts.length∧qs.length≤cq∧qs.length≤ps.length∧Hid (upK ts.length ps=upK k qs∧restP ps=restP qs)∧Hid (heap.Row w w.heap.size Aq qs)∧Hid (GoI w g A ts.length c k (.slice A1 n1 c1) f h wr)) (fun v _=>lenV v)
 case atStart=>exact⟨ts.length,ps,Ap,cp,rfl,h1,Nat.le_refl _,hcp,Nat.le_refl _,hid ⟨rfl,rfl⟩,HR,HI⟩
 case round=>
  clear HI;obtain⟨k,qs,Aq,cq,rfl,hk1,hk2,hcq,hql,HU,HQ,HI⟩:=hrel;have v0:wr.cell? ⟨g,0,none⟩=some (.slice A k c):=Jaa HI.out.blk 0;have v1:wr.cell? ⟨g,1,none⟩=some (.slice A1 n1 c1):=Jaa HI.out.blk 1;have z0:=Jab HI.out.blk 0;have z1:=Jab HI.out.blk 1;by_cases hgo:∃qs',qs=dd::qs'
  ·obtain⟨qs',rfl⟩:=hgo
   obtain⟨b,off,hAq,_,x0⟩:=(HI.out.tur.row HG.out HQ.out) 0 dd rfl;rw [Nat.add_zero] at x0;obtain⟨A2,hA2⟩:=words.nm ((if cq=1 then Aq else Aq.map (·.add 1)));have hcut:∀wx,(Instr.slice 47 (.slice Aq (qs'.length+1) cq) (some (.int .i64 1)) none none).run prog wx= .ok (.slice A2 qs'.length (cq - 1)) wx:=fun wx=>by
    rw [hA2];exact Jku Aq (qs'.length+1) cq (by omega) wx
   have hrow:heap.Row w w.heap.size A2 qs':=by
    rw [hA2];exact Jif HQ.out (by rw [List.length_cons] at hcq;omega)
   obtain⟨k2,hk2e⟩:=words.nm (max (k - 1) 1);have hkc:k2≤c:=by omega
   have hmax:max ((k:Int) - 1) 1=(k2:Int):=by omega
   have hcw:∀wx,(Instr.slice 142 (.slice A k c) none (some (.int .i64 (max ((k:Int) - 1) 1))) none).run prog wx= .ok (.slice A k2 c) wx:=fun wx=>by
    rw [hmax];exact Jpe A k c k2 hkc wx
   have q1:IntKind.i64.wrap ((k:Int) - 1)=(k:Int) - 1:=IntWalk.i64_in _ (by omega);have HRow:=hid hrow;have HUn:Hid (upK ts.length ps=upK k2 qs'∧restP ps=restP qs'):=hid (by
     obtain⟨e1,e2⟩:=HU.out;rw [e1,e2,hk2e];exact⟨by rw [upK,if_pos rfl],by rw [restP,if_pos rfl]⟩)
   have l0:(0:Int)<((qs'.length:Int)+1):=by omega
   have k21:1≤k2:=by omega
   have k22:k2≤ts.length:=by omega
   have HIn:Hid (GoI w g A ts.length c k2 (.slice A1 n1 c1) f h (wr.setCell ⟨g,0,none⟩ (.slice A k2 c))):=hid ⟨by
     rw [heap_setCell_same wr g 0 _ _ (.slice A k2 c) HI.out.blk];rfl,HI.out.tur.set 0 _⟩
   clear hA2 hrow hk2e hmax HU HQ HI;subst hAq;have hd:(dd.toList==[46,46])=true:=by rw [Jhq];rfl
   go_wp2_with fail
   go_region_law (fail)
   all_goals
    clear v0 v1 z0 z1 x0 hd;try simp only [List.getElem_toArray,List.getElem_cons_succ,List.getElem_cons_zero]
    try simp only [words.pt]
    go_wp2_with fail
    go_roundw
    case rel=>exact⟨k2,qs',A2,cq - 1,rfl,k21,k22,by rw [List.length_cons] at hcq;omega,by rw [List.length_cons] at hql;omega,HUn,HRow,hid (by first |exact HIn.out |exact HIn.out.drew |exact HIn.out.drew.drew)⟩
    case measure=>simp [lenV]
  ·have hup:upK k qs=k∧restP qs=qs:=by
    rcases qs with _ |⟨p,qs'⟩
    ·exact⟨rfl,rfl⟩
    ·have hne:p≠dd:=fun e=>hgo ⟨qs',by rw [e]⟩
     exact⟨by rw [upK,if_neg hne],by rw [restP,if_neg hne]⟩
   have HUp:=hid hup;have HFin:Hid (∀W:World,W=wr.setCell ⟨g,1,none⟩ (.slice Aq qs.length cq)→Wkr W g (ts.take (upK ts.length ps)) (restP ps) f h∧Tur g w W):=hid fun W hWe=>by
    subst hWe;obtain⟨e1,e2⟩:=HU.out;rw [e1,e2,hup.1,hup.2];have ht:=HI.out.tur.set 1 (.slice Aq qs.length cq);have hb:(wr.setCell ⟨g,1,none⟩ (.slice Aq qs.length cq)).heap[g]?=some (wkC (.slice A k c) (.slice Aq qs.length cq) f (h:Int)):=by
     rw [heap_setCell_same wr g 1 _ _ (.slice Aq qs.length cq) HI.out.blk];rfl
    have hkl:(ts.take k).length=k:=by rw [List.length_take];omega
    exact⟨⟨A,c,Aq,cq,by rw [hkl];exact hb,by rw [hkl];omega,hcq,(ht.way HG.out HW.out).take k,ht.row HG.out HQ.out⟩,ht⟩
   rcases qs with _ |⟨p,qs'⟩
   ·clear HI HU HQ hup
    go_wp2_with fail
    go_end0
    exact⟨⟨_,rfl⟩,HFin.out _ rfl⟩
   ·have hne:p≠dd:=fun e=>hgo ⟨qs',by rw [e]⟩
    have hd:(p.toList==[46,46])=false:=by
     rw [beq_eq_false_iff_ne];exact fun e=>hne (heap.toList_inj (e.trans Jhq.symm))
    obtain⟨b,off,hAq,_,x0⟩:=(HI.out.tur.row HG.out HQ.out) 0 p rfl;rw [Nat.add_zero] at x0;have l0:(0:Int)<((qs'.length:Int)+1):=by omega
    subst hAq;clear HI HU HQ hup hne;go_wp2_with fail
    go_end0
    exact⟨⟨_,rfl⟩,HFin.out _ rfl⟩

def set5 (w:World) (g:Nat) (u0 u1 u2 u3 u4:Value):World:=((((w.setCell ⟨g,0,none⟩ u0).setCell ⟨g,1,none⟩ u1).setCell ⟨g,2,none⟩ u2).setCell ⟨g,3,none⟩ u3).setCell ⟨g,4,none⟩ u4
theorem over5 {w:World} {g:Nat} {T:TypeId} {c0 c1 c2 c3 c4 u0 u1 u2 u3 u4:Value} (h:w.heap[g]?=some (.cells #[c0,c1,c2,c3,c4] T (0,0))):(set5 w g u0 u1 u2 u3 u4).heap[g]?=some (.cells #[u0,u1,u2,u3,u4] T (0,0)):=by
 simp [set5,World.setCell,Array.getElem?_modify,h]
theorem below5 {B g:Nat} {a b:World} (h:Below B a b) (hg:B≤g) (u0 u1 u2 u3 u4:Value):Below B a (set5 b g u0 u1 u2 u3 u4):=
 ((((h.setCell (p:=⟨g,0,none⟩) hg u0).setCell (p:=⟨g,1,none⟩) hg u1).setCell (p:=⟨g,2,none⟩) hg u2).setCell (p:=⟨g,3,none⟩) hg u3).setCell (p:=⟨g,4,none⟩) hg u4
def tgV (t:Tg) (A:Option Addr) (c:Nat):Value:= .agg #[.string t.S,.int .i64 t.K,.int .i64 t.l,.int .i64 t.i,.slice A t.Q.length c]
def Tgt (t:Tg) (w:World) (e:Ending) (w':World):Prop:=(∃A c,e= .returned (tgV t A c)∧Plc w' w'.heap.size A t.Q∧t.Q.length≤c∧(A=none→t.Q.length=0∧c=0))∧Below w.heap.size w w'
theorem Jnh (w:World) (g:Nat) (ts:List Tg) (t:Tg) (ps:List ByteArray) (f:Bool) (h:Nat) (hw:Wkr w g (ts++[t]) ps f h) (hl:ts.length≤1000000000):
  Calls prog 61 #[.pointer (some ⟨g,0,none⟩)] w (Tgt t w):=by
 obtain⟨W1,hW1⟩:=words.nm (w.alloc (.cells #[.string ⟨#[]⟩,.int .i64 0,.int .i64 0,.int .i64 0,.slice none 0 0] 39));have hb1:=words.b1 hW1;have hx1:W1.heap[w.heap.size]?=some (.cells #[.string ⟨#[]⟩,.int .i64 0,.int .i64 0,.int .i64 0,.slice none 0 0] 39 (0,0)):=by rw [hW1];exact heap_alloc_new w _
 obtain⟨A,c,Ap,cp,hg0,_,_,hway,_⟩:=hw.ex;have hg:=(hb1.block _ (lt_of_some hg0)).trans hg0;obtain⟨b,off,Aq,cq,hA,htg⟩:=hway ts.length t (by simp);subst hA;have hll:(ts++[t]).length=ts.length+1:=by simp
 rw [hll] at hg;obtain⟨k,hk⟩:=words.nm (ts.length);obtain⟨n,hn⟩:=words.nm (k+1);rw [←hk] at hl htg hg;rw [←hn] at hg;have v0:W1.cell? ⟨g,0,none⟩=some (.slice (some ⟨b,off,none⟩) n c):=Jaa hg 0;have c0:=(hb1.cell (p:=⟨b,off+k*5,none⟩) htg.lt).trans htg.c0;have c1:=(hb1.cell (p:=⟨b,off+k*5+1,none⟩) htg.lt).trans htg.c1;have c2:=(hb1.cell (p:=⟨b,off+k*5+2,none⟩) htg.lt).trans htg.c2;have c3:=(hb1.cell (p:=⟨b,off+k*5+3,none⟩) htg.lt).trans htg.c3;have c4:=(hb1.cell (p:=⟨b,off+k*5+4,none⟩) htg.lt).trans htg.c4;have i0:(0:Int)≤(n:Int) - 1:=by omega
 have i1:(n:Int) - 1<(n:Int):=by omega
 have i3:(1:Int)≤(n:Int):=by omega
 have i2:((n:Int) - 1).toNat=k:=by omega
 have q1:IntKind.i64.wrap ((n:Int) - 1)=(n:Int) - 1:=IntWalk.i64_in _ (by omega);have z0:=Jab hx1 0;have z1:=Jab hx1 1;have z2:=Jab hx1 2;have z3:=Jab hx1 3;have z4:=Jab hx1 4;have d0:W1.cell? ⟨w.heap.size,0,none⟩=some (.string ⟨#[]⟩):=Jaa hx1 0;have d1:W1.cell? ⟨w.heap.size,1,none⟩=some (.int .i64 0):=Jaa hx1 1;have d2:W1.cell? ⟨w.heap.size,2,none⟩=some (.int .i64 0):=Jaa hx1 2;have d3:W1.cell? ⟨w.heap.size,3,none⟩=some (.int .i64 0):=Jaa hx1 3;have d4:W1.cell? ⟨w.heap.size,4,none⟩=some (.slice none 0 0):=Jaa hx1 4;obtain⟨Wd,hWd⟩:=words.nm (set5 W1 w.heap.size (.string t.S) (.int .i64 t.K) (.int .i64 t.l) (.int .i64 t.i) (.slice Aq t.Q.length cq));have hob:Wd.heap[w.heap.size]?=some (.cells #[.string t.S,.int .i64 t.K,.int .i64 t.l,.int .i64 t.i,.slice Aq t.Q.length cq] 39 (0,0)):=by rw [hWd];exact over5 hx1
 have hBd:Below w.heap.size w Wd:=by rw [hWd];exact below5 hb1 (Nat.le_refl _) _ _ _ _ _
 have hplc:Plc Wd Wd.heap.size Aq t.Q:=(htg.plc.keep hBd).more hBd.size;have p0:Wd.drew.cell? ⟨w.heap.size,0,none⟩=some (.string t.S):=Jaa hob 0;have p1:Wd.drew.cell? ⟨w.heap.size,1,none⟩=some (.int .i64 t.K):=Jaa hob 1;have p2:Wd.drew.cell? ⟨w.heap.size,2,none⟩=some (.int .i64 t.l):=Jaa hob 2;have p3:Wd.drew.cell? ⟨w.heap.size,3,none⟩=some (.int .i64 t.i):=Jaa hob 3;have p4:Wd.drew.cell? ⟨w.heap.size,4,none⟩=some (.slice Aq t.Q.length cq):=Jaa hob 4;have HEn:Hid (Tgt t w (.returned (tgV t Aq cq)) Wd.drew):=hid ⟨⟨Aq,cq,rfl,hplc,htg.len,htg.nil⟩,hBd.drew⟩;unfold set5 at hWd;have HWd:=hid hWd.symm;have HW1:=hid hW1;clear hw hW1 hb1 hx1 hg hg0 hway htg hll hk hn hWd hob hBd hplc;go_enter func61,ntmps61
 go_upto_region 1 with fail
 rw [←HW1.out];go_region_law (fail)
 all_goals
  rw [HWd.out];go_wp2_with fail
  exact bodyPost_ret (v:=tgV t Aq cq) (by simp [results,results61,go_sem,tgV,p0,p1,p2,p3,p4]) rfl HEn.out
theorem Jp9 {w:World} {A:Option Addr} {P:List (Nat×Nat)} (h:Plc w w.heap.size A P):Lies w A (P.flatMap spC):=fun j u hj=>by
 have hl:(P.flatMap spC).length=P.length*2:=by
  induction P with
  |nil=>rfl
  |cons x P ih=>
   rw [List.flatMap_cons,List.length_append,List.length_cons];have:(P.flatMap spC).length=P.length*2:=by
    clear ih hj h
    induction P with
    |nil=>rfl
    |cons x P ih=>rw [List.flatMap_cons,List.length_append,List.length_cons,ih];simp [spC];omega
   rw [this];simp [spC];omega
 have hjl:=(List.getElem?_eq_some_iff.1 hj).1;obtain⟨q,r,rfl,hr⟩:∃q r,j=q*2+r∧r<2:=⟨j / 2,j % 2,by omega,by omega⟩
 obtain⟨x,hx⟩:∃x,P[q]?=some x:=⟨_,List.getElem?_eq_getElem (by omega)⟩
 rw [Jf9 hx r hr] at hj;obtain⟨b,off,h1,h2,h3,h4⟩:=h q x hx;refine⟨b,off,h1,h2,?_⟩;rcases r with _ |r
 ·have e:(Value.int .i64 (x.1:Int))=u:=by simpa [spC] using hj
  rw [←e];exact h3
 ·obtain rfl:r=0:=by omega
  have e:(Value.int .i64 (x.2:Int))=u:=by simpa [spC] using hj
  rw [←e,←Nat.add_assoc];exact h4
theorem Jj0 (P:List (Nat×Nat)):∀u∈P.flatMap spC,u.oneCell'=true:=fun u hu=>by
 obtain⟨x,_,hx⟩:=List.mem_flatMap.1 hu;simp only [spC,List.mem_cons,List.mem_nil_iff,or_false] at hx;rcases hx with rfl |rfl<;>rfl
theorem Jhb:∀P:List (Nat×Nat),(P.flatMap spC).length=P.length*2
 |[]=>rfl
 |x::P=>by rw [List.flatMap_cons,List.length_append,List.length_cons,Jhb P];simp [spC];omega
theorem Jq1 {w:World} {B size n c k:Nat} {E:TypeId} {A:Option Addr} {xs:List Value} (h:w.ownsRow B E size (.slice A n c) k xs):∀b o fr,A=some ⟨b,o,fr⟩→B≤b:=fun b o fr hA=>by
 rcases h.2 with⟨h0,_⟩ |⟨g,cap,cur,h1,h2,_⟩
 ·injection h0 with h0
  rw [hA] at h0;cases h0
 ·injection h1 with h1
  rw [hA] at h1;injection h1 with h1;injection h1 with h1;rw [h1];exact h2
def Plcd (P:List (Nat×Nat)) (w:World) (e:Ending) (w':World):Prop:=(∃A c,e= .returned (.slice A P.length c)∧Plc w' w'.heap.size A P∧P.length≤c∧(A=none→P.length=0∧c=0)∧∀b o fr,A=some ⟨b,o,fr⟩→w.heap.size≤b)∧Below w.heap.size w w'
theorem Jff (A:Option Addr) (c:Nat) (P:List (Nat×Nat)) (w:World) (hp:Plc w w.heap.size A P) (hz:A=none→P.length=0∧c=0) (hl:P.length≤1000):
  Calls prog 62 #[.slice A P.length c] w (Plcd P w):=by
 obtain⟨i0,hi,hz0,hz1,hz2⟩:=info_parts infoSpot;rcases A with _ |ad
 ·obtain⟨h0,rfl⟩:=hz rfl
  have hP:P=[]:=List.eq_nil_of_length_eq_zero h0;subst hP;have heq0:=fun wx=>Lib.run_eql_slice_nil (P:=prog) wx 35 33 none 0 0 0 0 underlying35;clear hp hl hz hz0 hz1 hz2 hi;go_enter func62,ntmps62
  go_wp2_with fail
  go_ret
  exact⟨⟨none,0,rfl,fun i x hx=>by simp at hx,Nat.le_refl _,fun _=>⟨rfl,rfl⟩,fun _ _ _ h=>by cases h⟩,Below.refl _ _⟩
 ·have heq:=fun wx=>Lib.run_eql_slice_nil (P:=prog) wx 35 33 (some ad) P.length c 0 0 underlying35
  have hnews:Hid (∀j u,(P.flatMap spC)[j]?=some u→(w.alloc (.cells #[] 33)).cell? (ad.add j)=some u):=hid fun j u hu=>by
   obtain⟨b,off,hA,hB,hc⟩:=Jp9 hp j u hu;injection hA with hA;subst hA;rw [Jas];exact (((Below.refl w.heap.size w).alloc (Nat.le_refl _) (.cells #[] 33)).cell (p:=⟨b,off+j,none⟩) hB).trans hc
  have HOne:=hid (Jj0 P);have HLen:=hid (Jhb P);clear hp hz;go_enter func62,ntmps62
  go_wp2_with (at_builtin;refine wpList_append_own _ rfl (.tmp 5) (.tmp 6) 35 rfl w.heap.size 33 i0 _ 2 16 underlying35 hi hz0 hz1 hz2 rfl (by omega) (.slice (some ⟨w.heap.size,0,none⟩) 0 0) 0 [] rfl (World.ownsRow_made w #[] 0 (Nat.le_refl _) (by decide) rfl) ad P.length c (P.flatMap spC) rfl HLen.out hnews.out HOne.out (by simp only [maxLen];omega) (by omega) (by simp) ?_;intro v4 w4 hown4 hgrow hnil4)
  rw [Nat.zero_add,List.nil_append] at hown4;obtain⟨A4,c4,rfl,h1,h2⟩:=own_facts hown4;have HO4:=hid hown4;have HB4:=hid (Jad (S:=w.heap.size) ((Below.refl w.heap.size w).alloc (Nat.le_refl _) (.cells #[] 33)) (World.ownsRow_made w #[] 0 (Nat.le_refl _) (by decide) rfl:(w.alloc (.cells #[] 33)).ownsRow w.heap.size 33 2 _ 0 []) hgrow (Nat.le_refl _) (Nat.le_refl _));clear hown4 hgrow hnil4;go_wp2_with fail
  go_ret
  exact⟨⟨A4,c4,rfl,Jh0 HO4.out,h1,h2,Jq1 HO4.out⟩,HB4.out⟩
end Go.Proofs.YtkjpgheealfedaaGreatDoor.wlk

namespace Go.Proofs.YtkjpgheealfedaaGreatDoor.name
open Go.RowKit words

theorem Jdc (a b:ByteArray):(a++b).data.toList=a.data.toList++b.data.toList:=by
 obtain⟨⟨l⟩⟩:=a;obtain⟨⟨m⟩⟩:=b;rfl
theorem Jo1 {x y:ByteArray} (h:x.data.toList=y.data.toList):x=y:=by
 obtain⟨⟨l⟩⟩:=x;obtain⟨⟨m⟩⟩:=y;have:l=m:=h;rw [this]
theorem Jbm (d s:ByteArray) (w:World) (h1:d.size≤1000000000) (h2:s.size≤1000000000):
  Calls prog 84 #[.string d,.string s] w fun e w'=>(∃r:ByteArray,e= .returned (.string r)∧r.data.toList=if d.data.toList=[47] then 47::s.data.toList else d.data.toList++47::s.data.toList)∧w=w':=by
 by_cases c:d.toList=[47]
 ·have f1:(d.toList==[47])=true:=by rw [c];rfl
  have e:(d++s).data.toList=47::s.data.toList:=by rw [Jdc,←to_list,c];rfl
  have E:=hid e;rw [←to_list,if_pos c];clear c e;go_enter func84,ntmps84
  go_wp2
  go_ret
  exact⟨⟨_,rfl,E.out⟩,rfl⟩
 ·have f1:(d.toList==[47])=false:=by simpa using c
  have e:(d++⟨#[47]⟩++s).data.toList=d.data.toList++47::s.data.toList:=by
   rw [Jdc,Jdc,List.append_assoc];rfl
  have E:=hid e;have hz:(d++⟨#[47]⟩).size≤1000000001:=by rw [ByteArray.size_append];show d.size+1≤_;omega
  have c':d.data.toList≠[47]:=by rw [←to_list];exact c
  rw [if_neg c'];clear c c' e;go_enter func84,ntmps84
  go_wp2
  go_ret
  exact⟨⟨_,rfl,E.out⟩,rfl⟩

end Go.Proofs.YtkjpgheealfedaaGreatDoor.name

namespace Go.Proofs.YtkjpgheealfedaaGreatDoor.wlk
open Go.RowKit words ext name tre stk Go.Proofs.YtkjpgheealfedaaGreatDoor.seen

def Olds (w:World) (B:Nat) (ts:List Tg) (olds:List Value):Prop:=
 olds.length=ts.length*5∧∀(k:Nat) (t:Tg),ts[k]?=some t→∃Aq cq,(∀r,r<5→olds[k*5+r]?=(tgC t Aq cq)[r]?)∧Plc w B Aq t.Q∧t.Q.length≤cq∧(Aq=none→t.Q.length=0∧cq=0)
theorem Olds.keep {w w':World} {B:Nat} {ts:List Tg} {olds:List Value} (h:Olds w B ts olds) (hb:Below B w w'):Olds w' B ts olds:=⟨h.1,fun k t hk=>by
  obtain⟨Aq,cq,h1,h2,h3,h4⟩:=h.2 k t hk;exact⟨Aq,cq,h1,h2.keep hb,h3,h4⟩⟩
theorem Olds.more {w:World} {B B':Nat} {ts:List Tg} {olds:List Value} (h:Olds w B ts olds) (hB:B≤B'):Olds w B' ts olds:=⟨h.1,fun k t hk=>by
  obtain⟨Aq,cq,h1,h2,h3,h4⟩:=h.2 k t hk;exact⟨Aq,cq,h1,h2.more hB,h3,h4⟩⟩
theorem Jps {w:World} {B b off:Nat} {ts:List Tg} (h:Way w B (some ⟨b,off,none⟩) ts):∃olds,Olds w B ts olds∧∀j u,olds[j]?=some u→w.cell? ⟨b,off+j,none⟩=some u:=by
 have hcell:∀(k:Nat) (t:Tg),ts[k]?=some t→∃Aq cq,(∀r,r<5→w.cell? ⟨b,off+(k*5+r),none⟩=(tgC t Aq cq)[r]?)∧Plc w B Aq t.Q∧t.Q.length≤cq∧(Aq=none→t.Q.length=0∧cq=0):=fun k t hk=>by
  obtain⟨b',off',Aq,cq,hA,ht⟩:=h k t hk;injection hA with hA;injection hA with e1 e2;subst e1 e2;refine⟨Aq,cq,fun r hr=>?_,ht.plc,ht.len,ht.nil⟩;rw [←Nat.add_assoc];rcases r with _ |_ |_ |_ |_ |r
  ·exact ht.c0
  ·exact ht.c1
  ·exact ht.c2
  ·exact ht.c3
  ·exact ht.c4
  ·omega
 have hsome:∀j,j<ts.length*5→∃u,w.cell? ⟨b,off+j,none⟩=some u:=fun j hj=>by
  obtain⟨q,r,rfl,hr⟩:∃q r,j=q*5+r∧r<5:=⟨j / 5,j % 5,by omega,by omega⟩
  obtain⟨t,ht⟩:∃t,ts[q]?=some t:=⟨_,List.getElem?_eq_getElem (by omega)⟩
  obtain⟨Aq,cq,h1,_⟩:=hcell q t ht;exact⟨(tgC t Aq cq)[r]'(by simpa [tgC] using hr),(h1 r hr).trans (List.getElem?_eq_getElem _)⟩
 have hat:∀j,j<ts.length*5→((List.range (ts.length*5)).map fun j=>(w.cell? ⟨b,off+j,none⟩).getD (.bool false))[j]?=w.cell? ⟨b,off+j,none⟩:=fun j hj=>by
  obtain⟨u,hu⟩:=hsome j hj;rw [List.getElem?_map,List.getElem?_range hj,Option.map_some,hu];rfl
 refine⟨(List.range (ts.length*5)).map fun j=>(w.cell? ⟨b,off+j,none⟩).getD (.bool false),⟨by simp,fun k t hk=>?_⟩,fun j u hj=>?_⟩
 ·obtain⟨Aq,cq,h1,h2⟩:=hcell k t hk
  have hkl:=(List.getElem?_eq_some_iff.1 hk).1;exact⟨Aq,cq,fun r hr=>(hat _ (by omega)).trans (h1 r hr),h2⟩
 ·have hl:=(List.getElem?_eq_some_iff.1 hj).1
  rw [List.length_map,List.length_range] at hl;rw [hat j hl] at hj;exact hj
theorem Olds.snoc {w:World} {B:Nat} {ts:List Tg} {olds:List Value} (h:Olds w B ts olds) {t:Tg} {A:Option Addr} {c:Nat} (hp:Plc w B A t.Q) (hl:t.Q.length≤c) (hn:A=none→t.Q.length=0∧c=0):Olds w B (ts++[t]) (olds++tgC t A c):=by
 refine⟨by rw [List.length_append,List.length_append,h.1];simp [tgC];omega,fun k x hk=>?_⟩;rcases Nat.lt_or_ge k ts.length with hlt |hge
 ·rw [List.getElem?_append_left hlt] at hk
  obtain⟨Aq,cq,h1,h2⟩:=h.2 k x hk;exact⟨Aq,cq,fun r hr=>by rw [List.getElem?_append_left (by rw [h.1];omega)];exact h1 r hr,h2⟩
 ·rw [List.getElem?_append_right hge] at hk
  have hk0:k=ts.length:=by
   have:=(List.getElem?_eq_some_iff.1 hk).1;simp at this;omega
  subst hk0;obtain rfl:t=x:=by simpa using hk
  exact⟨A,c,fun r hr=>by rw [List.getElem?_append_right (by rw [h.1];omega),h.1,Nat.add_sub_cancel_left],hp,hl,hn⟩
theorem Jr2 {w:World} {B n c:Nat} {A:Option Addr} {ts:List Tg} {olds:List Value} (h:w.ownsRow B 39 5 (.slice A n c) n olds) (ho:Olds w w.heap.size ts olds):Way w w.heap.size A ts:=fun k t hk=>by
 obtain⟨Aq,cq,h1,h2,h3,h4⟩:=ho.2 k t hk;have cell:∀r u,(tgC t Aq cq)[r]?=some u→r<5→∃g,A=some ⟨g,0,none⟩∧g<w.heap.size∧w.cell? ⟨g,k*5+r,none⟩=some u:=fun r u hu hr=>by
  obtain⟨g,_,e1,_,e2,_,e3⟩:=tre.own_cell h (j:=k*5+r) (u:=u) ((h1 r hr).trans hu);exact⟨g,e1,e2,e3⟩
 obtain⟨g,hA,hg,c0⟩:=cell 0 _ rfl (by omega);subst hA;have same:∀r u,(tgC t Aq cq)[r]?=some u→r<5→w.cell? ⟨g,k*5+r,none⟩=some u:=fun r u hu hr=>by
  obtain⟨g',e1,_,e3⟩:=cell r u hu hr;injection e1 with e1;injection e1 with e1;rw [e1];exact e3
 exact⟨g,0,Aq,cq,rfl,hg,by rw [Nat.zero_add];exact c0,by rw [Nat.zero_add];exact same 1 _ rfl (by omega),by rw [Nat.zero_add];exact same 2 _ rfl (by omega),by rw [Nat.zero_add];exact same 3 _ rfl (by omega),by rw [Nat.zero_add];exact same 4 _ rfl (by omega),h2,h3,h4⟩
def childS (d s:ByteArray):ByteArray:=⟨⟨if d.data.toList=[47] then 47::s.data.toList else d.data.toList++47::s.data.toList⟩⟩
theorem Jpn (d s:ByteArray) (w:World) (h1:d.size≤1000000000) (h2:s.size≤1000000000):
  Calls prog 84 #[.string d,.string s] w fun e w'=>e= .returned (.string (childS d s))∧w=w':=
 (Jbm d s w h1 h2).mono fun e w' ⟨⟨r,he,hr⟩,hw⟩=>⟨by rw [he,Jo1 (x:=r) (y:=childS d s) (by rw [hr];rfl)],hw⟩
end Go.Proofs.YtkjpgheealfedaaGreatDoor.wlk

namespace Go.Proofs.YtkjpgheealfedaaGreatDoor.held
open Go
variable {P:Program} {ops:Array Oper} {Q:Exit→Act→World→Prop} {md:Region.Mode} {S:World→Prop} {T:Nat→Bool}

def wpT (P:Program) (md:Region.Mode) (ops:Array Oper) (Q:Exit→Act→World→Prop) (S:World→Prop) (T:Nat→Bool):Nat→Array Bool→Act→World→Prop
 |0,L,a,w=>Region.ready md ops L=[]∧Q .normal a w
 |n+1,L,a,w=>(Region.ready md ops L=[]→Q .normal a w)∧∀i∈Region.ready md ops L,wpOp P ops Q i (fun a' w'=>(T i=false→S w→S w')∧wpT P md ops Q S T n (L.setIfInBounds i true) a' w') a w
theorem Jno:∀(n:Nat) (L:Array Bool) (a:Act) (w:World),wpT P md ops Q S T n L a w→wpAny P md ops Q n L a w
 |0,_,_,_,h=>h
 |n+1,_,_,_,h=>⟨h.1,fun i hi=>wpOp_mono (fun a' w' k=>Jno n _ a' w' k.2) (h.2 i hi)⟩
theorem unlisted {i:Nat} {L:Array Bool} (h:L.getD i true=false):¬L.getD i false=true:=by
 rcases Nat.lt_or_ge i L.size with k |k
 ·simp [k] at h ⊢
  exact h
 ·simp [Array.getElem?_eq_none k] at h
theorem Jin {S0:World→Prop} {i:Nat} {oi:Oper} {v:Value} (hi:ops[i]?=some oi) (hsel:∀(j:Nat) (o:Oper) cs b,ops[j]?=some o→o.op≠ .select cs b)
  (hQ:∀c a w,Q (.panic c) (a.put oi.dst v) w→Q (.panic c) a w)
  (h0:∀(L:Array Bool) (j:Nat),j∈Region.ready md ops L→L.getD i true=false→∀w w',S0 w→(T j=false→S w→S w')→S0 w'):
  ∀(n:Nat) (L:Array Bool) (a:Act) (w:World),
   (∀j oj,ops[j]?=some oj→j≠i→L.getD j true=false→(∀e∈oj.after,Region.binds md e=true→e.on≠i)→oi.apart ops oj=true)→
   i∈Region.ready md ops L→YieldsIf P ops S0 oi v a→S0 w→
   wpT P md ops Q S T n (L.setIfInBounds i true) (a.put oi.dst v) w→wpT P md ops Q S T (n+1) L a w:=by
 intro n
 induction n with
 |zero=>
  intro L a w _ hr hy hs H;refine⟨fun h=>absurd (h▸hr) (by simp),fun j hj=>?_⟩;by_cases e:j=i
  ·subst e
   exact hy.wpOp hi hs ⟨fun _ h=>h,H⟩
  ·have k:=ready_mono hj e
   rw [H.1] at k;cases k
 |succ n ih=>
  intro L a w hfree hr hy hs H;refine⟨fun h=>absurd (h▸hr) (by simp),fun j hj=>?_⟩;by_cases e:j=i
  ·subst e
   exact hy.wpOp hi hs ⟨fun _ h=>h,H⟩
  ·have k:=H.2 j (ready_mono hj e)
   obtain⟨hjl,oj,hoj,hall⟩:=mem_ready.1 hj;have hil:L.getD i true=false:=(mem_ready.1 hr).1;have hno:∀x∈oj.after,Region.binds md x=true→x.on≠i:=fun x hx hb he=>by
    have:=hall x hx hb;rw [he] at this;exact unlisted hil this
   have k2:=wpOp_putIf hoj (hfree j oj hoj e hjl hno) (fun cs b=>hsel i oi cs b hi) (fun cs b=>hsel j oj cs b hoj) hQ hy k;have hfree':∀q oq,ops[q]?=some oq→q≠i→(L.setIfInBounds j true).getD q true=false→(∀x∈oq.after,Region.binds md x=true→x.on≠i)→oi.apart ops oq=true:=fun q oq hq hqi hun hn=>by
    refine hfree q oq hq hqi ?_ hn;by_cases hjq:j=q
    ·subst hjq
     exact hjl
    ·rw [getD_set_ne true hjq] at hun
     exact hun
   refine wpOp_mono (fun a' w' k3=>⟨k3.2.1,?_⟩) k2;have hs':S0 w':=h0 L j hj hil w w' hs k3.2.1;refine ih (L.setIfInBounds j true) a' w' hfree' (ready_mono hr (Ne.symm e)) k3.1 hs' ?_;rw [Array.setIfInBounds_comm _ _ e];exact k3.2.2
theorem wpT_take {i:Nat} {oi:Oper} {v:Value} {n:Nat} {L:Array Bool} {a:Act} {w:World} (hi:ops[i]?=some oi) (hs:Region.noSelect ops=true) (hf:Region.free md ops L i=true) (hr:(Region.ready md ops L).contains i=true)
  (hQ:∀c a w,Q (.panic c) (a.put oi.dst v) w→Q (.panic c) a w) (hy:YieldsIf P ops (fun _=>True) oi v a)
  (h:wpT P md ops Q S T n (L.setIfInBounds i true) (a.put oi.dst v) w):wpT P md ops Q S T (n+1) L a w:=
 Jin (S0:=fun _=>True) hi (Region.noSelect_spec hs) hQ (fun _ _ _ _ _ _ _ _=>trivial) n L a w (Region.free_spec hi hf) (by simpa using hr) hy trivial h
def waits (md:Region.Mode) (ops:Array Oper) (T:Nat→Bool) (i:Nat):Bool:=(List.range ops.size).all fun j=> !T j||match ops[j]? with |some o=>o.after.any (fun e=>Region.binds md e&&e.on==i) |none=>true
theorem wpT_load {i:Nat} {oi:Oper} {v:Value} {n:Nat} {L:Array Bool} {a:Act} {w:World} (hi:ops[i]?=some oi) (hs:Region.noSelect ops=true) (hf:Region.free md ops L i=true) (hr:(Region.ready md ops L).contains i=true)
  (hQ:∀c a w,Q (.panic c) (a.put oi.dst v) w→Q (.panic c) a w) (hw:waits md ops T i=true) (hy:YieldsIf P ops S oi v a) (hS:S w)
  (h:wpT P md ops Q S T n (L.setIfInBounds i true) (a.put oi.dst v) w):wpT P md ops Q S T (n+1) L a w:=by
 refine Jin (S0:=S) hi (Region.noSelect_spec hs) hQ (fun L j hj hil w w' hs hk=>?_) n L a w (Region.free_spec hi hf) (by simpa using hr) hy hS h;rcases hTj:T j with _ |_
 ·exact hk hTj hs
 ·exfalso
  obtain⟨_,oj,hoj,hall⟩:=mem_ready.1 hj;have hlt:j<ops.size:=(Array.getElem?_eq_some_iff.1 hoj).1;have k:=List.all_eq_true.1 hw j (List.mem_range.2 hlt);rw [hTj,hoj] at k;have k2:oj.after.any (fun e=>Region.binds md e&&e.on==i)=true:=by simpa using k
  obtain⟨x,hx,hb⟩:=Array.any_eq_true'.1 k2;rw [Bool.and_eq_true,beq_iff_eq] at hb;have:=hall x hx hb.1;rw [hb.2] at this;exact unlisted hil this
theorem wpT_done {L:Array Bool} {a:Act} {w:World} (hr:Region.ready md ops L=[]) (h:Q .normal a w):∀n,wpT P md ops Q S T n L a w
 |0=>⟨hr,h⟩
 |_+1=>⟨fun _=>h,by rw [hr];simp⟩
theorem wpT_one {i:Nat} {o:Oper} {n:Nat} {L:Array Bool} {a:Act} {w0:World} (hr:Region.ready md ops L=[i]) (ho:ops[i]?=some o)
  (h:∀K':Act→World→Prop,Shut (∀a w,(T i=false→S w0→S w)→wpT P md ops Q S T n (L.setIfInBounds i true) a w→K' a w)→if Region.wanted o (yielded ops a.tmps)=true then Oper.wp P o a w0 K' Q else K' (a.put o.dst undef) w0):wpT P md ops Q S T (n+1) L a w0:=by
 refine⟨fun h0=>(by rw [hr] at h0;cases h0),fun j hj=>?_⟩;rw [hr] at hj;obtain rfl:=List.mem_singleton.1 hj;exact wpOp_step ho fun K' hK=>h K' fun a w h1 h2=>hK a w ⟨h1,h2⟩
theorem wpT_start {id:Nat} {a:Act} {w:World} (hm:P.follows .mixedOrders=true) (h:wpT P .any ops Q S T ops.size (Array.replicate ops.size false) a w.drew):(Code.region id ops true).wp P Q a w:=
 wp_region_any hm (Jno _ _ _ _ h)
end Go.Proofs.YtkjpgheealfedaaGreatDoor.held
