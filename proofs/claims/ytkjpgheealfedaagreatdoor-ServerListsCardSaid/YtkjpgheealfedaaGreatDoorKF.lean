import Derived.Test.YtkjpgheealfedaaGreatDoorKA
set_option maxHeartbeats 6400000
set_option maxRecDepth 100000
open Go.Lib (hid)
open Go.Proofs.Tryz
namespace Go.Proofs.YtkjpgheealfedaaGreatDoor.lrl
open Go.RowKit words lru

structure Lst where
 ep:Int
 a:Option Addr
 n:Nat
 c:Nat
def e0:Lst:=⟨0,none,0,0⟩
def pC (p:ByteArray×Lst):List Value:=[.string p.1,.int .i64 p.2.ep,.slice p.2.a p.2.n p.2.c]
def Lru (w:World) (B g:Nat) (bo:Option Nat) (r:Nat) (L:List (ByteArray×Lst)):Prop:=
 B≤g∧∃v,v.ownBlock=bo∧w.heap[g]?=some (.cells #[.int .i64 (r:Int),v] 225 (0,0))∧w.ownsRow B 270 3 v L.length (L.flatMap pC)
def Its (g:Nat) (bo:Option Nat) (k:Nat):Prop:=k=g∨some k=bo
def LS (t:TypeId):Prop:=t=225∨t=270

theorem Jip (p:ByteArray×Lst):∀u∈pC p,u.oneCell'=true:=fun u hu=>by
 simp only [pC,List.mem_cons,List.mem_nil_iff,or_false] at hu;rcases hu with rfl |rfl |rfl<;>rfl
theorem Ji5 (L:List (ByteArray×Lst)):∀u∈L.flatMap pC,u.oneCell'=true:=fun u hu=>by
 obtain⟨p,_,hp⟩:=List.mem_flatMap.1 hu;exact Jip p u hp
theorem Jb1 (L:List (ByteArray×Lst)):(L.flatMap pC).length=L.length*3:=by
 induction L with
 |nil=>rfl
 |cons p L ih=>rw [List.flatMap_cons,List.length_append,ih,List.length_cons];simp [pC];omega
theorem Jo8:∀{L:List (ByteArray×Lst)} {i:Nat} {p:ByteArray×Lst},L[i]?=some p→∀j,j<3→(L.flatMap pC)[i*3+j]?=(pC p)[j]?
 |[],i,p,h,_,_=>by simp at h
 |x::L,i,p,h,j,hj=>by
  rw [List.flatMap_cons];rcases i with _ |i
  ·obtain rfl:x=p:=by simpa using h
   rw [List.getElem?_append_left (by simp [pC];omega),Nat.zero_mul,Nat.zero_add]
  ·rw [List.getElem?_append_right (by simp [pC];omega),←Jo8 (L:=L) (i:=i) (by simpa using h) j hj]
   congr 1;simp [pC];omega
theorem Jjf (L:List (ByteArray×Lst)) (m:Nat):(L.flatMap pC).take (m*3)=(L.take m).flatMap pC:=by
 induction L generalizing m with
 |nil=>simp
 |cons p L ih=>
  rcases m with _ |m
  ·simp
  ·rw [List.flatMap_cons,List.take_succ_cons,List.flatMap_cons,←ih m,List.take_append,show (pC p).length=3 from rfl,show (m+1)*3 - 3=m*3 by omega,List.take_of_length_le (by simp [pC];omega)]
theorem Jjq (L:List (ByteArray×Lst)) (m:Nat):(L.flatMap pC).drop (m*3)=(L.drop m).flatMap pC:=by
 induction L generalizing m with
 |nil=>simp
 |cons p L ih=>
  rcases m with _ |m
  ·simp
  ·rw [List.flatMap_cons,List.drop_succ_cons,←ih m,List.drop_append,show (pC p).length=3 from rfl,show (m+1)*3 - 3=m*3 by omega,List.drop_of_length_le (by simp [pC];omega),List.nil_append]

structure Cells (w:World) (g r:Nat) (L:List (ByteArray×Lst)) (A:Option Addr) (c:Nat):Prop where
 c0:w.cell? ⟨g,0,none⟩=some (.int .i64 (r:Int))
 c1:w.cell? ⟨g,1,none⟩=some (.slice A L.length c)
 le:L.length≤c
 max:c≤maxLen
 at_:∀i p,L[i]?=some p→∃b,A=some ⟨b,0,none⟩∧b<w.heap.size∧w.cell? ⟨b,i*3,none⟩=some (.string p.1)∧w.cell? ⟨b,i*3+1,none⟩=some (.int .i64 p.2.ep)∧w.cell? ⟨b,i*3+2,none⟩=some (.slice p.2.a p.2.n p.2.c)
theorem Lru.cells {w:World} {B g r:Nat} {bo:Option Nat} {L:List (ByteArray×Lst)} (h:Lru w B g bo r L):∃A c,Cells w g r L A c:=by
 obtain⟨_,v,_,hb,ho⟩:=h;rcases ho.2 with⟨rfl,h0⟩ |⟨b,c,cur,rfl,_,hh,h1,h2,h3,h4⟩
 ·have hL:L=[]:=List.eq_nil_of_length_eq_zero h0
  subst hL;exact⟨none,0,Jaa hb 0,Jaa hb 1,Nat.le_refl _,Nat.zero_le _,fun i p hp=>by simp at hp⟩
 ·refine⟨some ⟨b,0,none⟩,c,Jaa hb 0,Jaa hb 1,h1,h2,fun i p hp=>?_⟩
  have hi:=(List.getElem?_eq_some_iff.1 hp).1;have hcell:∀j,j<3→w.cell? ⟨b,i*3+j,none⟩=(pC p)[j]?:=fun j hj=>by
   rw [Jaa hh,←Array.getElem?_toList,←Jo8 hp j hj,←h4,List.getElem?_take,if_pos (by omega)]
  exact⟨b,rfl,lt_of_some hh,hcell 0 (by omega),hcell 1 (by omega),hcell 2 (by omega)⟩
theorem Lru.row {w:World} {B g r:Nat} {bo:Option Nat} {L:List (ByteArray×Lst)} (h:Lru w B g bo r L) (hL:0<L.length):
  ∃b c cur,bo=some b∧w.heap[g]?=some (.cells #[.int .i64 (r:Int),.slice (some ⟨b,0,none⟩) L.length c] 225 (0,0))∧w.heap[b]?=some (.cells cur 270 (0,0))∧B≤b∧L.length≤c∧c≤maxLen∧cur.size=c*3∧cur.toList.take (L.length*3)=L.flatMap pC:=by
 obtain⟨_,v,rfl,hb,ho⟩:=h;rcases ho.2 with⟨rfl,h0⟩ |⟨b,c,cur,rfl,h5,hh,h1,h2,h3,h4⟩
 ·omega
 ·exact⟨b,c,cur,rfl,hb,hh,h5,h1,h2,h3,h4⟩
theorem Lru.lt {w:World} {B g r:Nat} {bo:Option Nat} {L:List (ByteArray×Lst)} (h:Lru w B g bo r L):B≤g∧g<w.heap.size∧∀b,bo=some b→B≤b∧b<w.heap.size∧b≠g:=by
 obtain⟨h0,v,rfl,hb,ho⟩:=h;refine⟨h0,lt_of_some hb,fun b hbo=>?_⟩;obtain⟨h1,h2⟩:=ho.lt b hbo;exact⟨h1,h2,fun e=>Jay ho hb (by decide) (e▸hbo)⟩
theorem Lru.types {w:World} {B g r:Nat} {bo:Option Nat} {L:List (ByteArray×Lst)} (h:Lru w B g bo r L):∀k,Its g bo k→B≤k∧∃cs t f,w.heap[k]?=some (.cells cs t f)∧LS t:=fun k hk=>by
 obtain⟨h0,v,rfl,hb,ho⟩:=h;rcases hk with rfl |hk
 ·exact⟨h0,_,_,_,hb,.inl rfl⟩
 ·rcases ho.2 with⟨rfl,_⟩ |⟨b,c,cur,rfl,h5,hh,_⟩
  ·simp [Value.ownBlock] at hk
  ·have:k=b:=by simpa [Value.ownBlock] using hk
   subst this;exact⟨h5,_,_,_,hh,.inr rfl⟩
theorem Lru.tn {S:Nat→Prop} {w w':World} {B g r:Nat} {bo:Option Nat} {L:List (ByteArray×Lst)} (h:Lru w B g bo r L) (ht:Tn S w w') (hS:∀k,Its g bo k→¬S k):Lru w' B g bo r L:=by
 obtain⟨h0,v,rfl,hb,ho⟩:=h;exact⟨h0,v,rfl,(ht.block g (lt_of_some hb) (hS g (.inl rfl))).trans hb,ht.own ho fun k hk=>hS k (.inr hk.symm)⟩
theorem Lru.quiet {w w':World} {B g r:Nat} {bo:Option Nat} {L:List (ByteArray×Lst)} (h:Lru w B g bo r L) (ht:Tn (fun _=>False) w w'):Lru w' B g bo r L:=h.tn ht fun _ _ hc=>hc
theorem Lru.of_kept {S:TypeId→Prop} {B':Nat} {w w':World} {B g r:Nat} {bo:Option Nat} {L:List (ByteArray×Lst)} (h:Lru w B g bo r L) (hk:Kept S B' w w') (h1:¬S 225) (h2:¬S 270):Lru w' B g bo r L:=by
 obtain⟨h0,v,rfl,hb,ho⟩:=h;exact⟨h0,v,rfl,hk.blk hb h1,hk.own ho h2⟩
theorem Lru.drewn {w:World} {B g r:Nat} {bo:Option Nat} {L:List (ByteArray×Lst)} (h:Lru w B g bo r L):Lru w.drew B g bo r L:=h
theorem Jjg {w w':World} {B g r:Nat} {bo:Option Nat} {L:List (ByteArray×Lst)} (ht:Tn (Its g bo) w w') (h:Lru w B g bo r L):Kept LS B w w':=ht.kept h.types

structure Left (w:World) (B g r:Nat) (bo:Option Nat) (L:List (ByteArray×Lst)) (w':World):Prop where
 ex:∃bo',Lru w' B g bo' r L∧∀b,bo'=some b→bo=some b∨w.heap.size≤b
 tn:Tn (Its g bo) w w'
theorem Left.kept {w w':World} {B g r:Nat} {bo:Option Nat} {L L':List (ByteArray×Lst)} (h:Left w B g r bo L' w') (hl:Lru w B g bo r L):Kept LS B w w':=Jjg h.tn hl

theorem takeW {l:List Value} (h:l.length=3):∃a0 a1 a2,l=[a0,a1,a2]:=by
 match l,h with
 |[a0,a1,a2],_=>exact⟨a0,a1,a2,rfl⟩
theorem Jdi {cur:List Value} {L:List (ByteArray×Lst)} {i:Nat} (p:ByteArray×Lst) (hi:i<L.length) (hc:cur.take (L.length*3)=L.flatMap pC):
  (((((cur.take 3++(L.take i).flatMap pC++cur.drop (3+((L.take i).flatMap pC).length)).set 0 (.string p.1)).set 1 (.int .i64 p.2.ep)).set 2 (.slice p.2.a p.2.n p.2.c)).take (L.length*3))=(p::(L.take i++L.drop (i+1))).flatMap pC:=by
 have hlen:L.length*3≤cur.length:=by
  have:=congrArg List.length hc;rw [Jb1,List.length_take] at this;omega
 have hti:(L.take i).length=i:=by rw [List.length_take];omega
 have hf:((L.take i).flatMap pC).length=i*3:=by rw [Jb1,hti]
 rw [hf];have hd:cur.drop (3+i*3)=(L.drop (i+1)).flatMap pC++cur.drop (L.length*3):=by
  rw [←Jjq,←hc,show (i+1)*3=3+i*3 by omega,List.drop_take];have:(cur.drop (3+i*3)).take (L.length*3 - (3+i*3))++(cur.drop (3+i*3)).drop (L.length*3 - (3+i*3))=cur.drop (3+i*3):=List.take_append_drop _ _;rw [List.drop_drop,show 3+i*3+(L.length*3 - (3+i*3))=L.length*3 by omega] at this;exact this.symm
 obtain⟨a0,a1,a2,hab⟩:=takeW (l:=cur.take 3) (by rw [List.length_take];omega);rw [hab,hd];have e:(((([a0,a1,a2]++(L.take i).flatMap pC++((L.drop (i+1)).flatMap pC++cur.drop (L.length*3))).set 0 (.string p.1)).set 1 (.int .i64 p.2.ep)).set 2 (.slice p.2.a p.2.n p.2.c))=(p::(L.take i++L.drop (i+1))).flatMap pC++cur.drop (L.length*3):=by
  rw [List.flatMap_cons,List.flatMap_append];simp [pC]
 rw [e];have hl:((p::(L.take i++L.drop (i+1))).flatMap pC).length=L.length*3:=by
  rw [Jb1];simp;omega
 rw [List.take_append_of_le_length (by omega),List.take_of_length_le (by omega)]

theorem toList_inj {a b:ByteArray} (h:a.toList=b.toList):a=b:=by
 rw [ByteArray.toList_eq,ByteArray.toList_eq] at h;exact ByteArray.ext (Array.ext' h)
theorem toListNe {a b:ByteArray} (h:a≠b):(a.toList==b.toList)=false:=by
 rw [beq_eq_false_iff_ne];exact fun e=>h (toList_inj e)
theorem idle (a:Addr) (w:World):CallsD prog 174 #[.pointer (some a)] .returning w fun e u' w'=>e= .returned (.tuple #[])∧u'= .returning∧w'=w:=by
 refine callsD_of_wpS func174 rfl fun c₀ cs hu=>?_;apply wpS_seq;apply wpS_region;simp [wpOpsS,go_sem,recoverD,hu,ntmps174,Exit.thenS];refine wpS_cond (t:=false) (by simp [Act.eval,Array.replicate]) ?_;simp only [Bool.false_eq_true,if_false];refine wpS_of_wp (wp_skip ?_);cases c₀;simp_all [bodyPostS,results,results174]

def At (i:Int) (w:World) (e:Ending) (w':World):Prop:=e= .returned (.int .i64 i)∧Tn (fun _=>False) w w'
theorem Jm7 {L:List (ByteArray×Lst)} {i j:Nat} {k:ByteArray} {x:Lst} {p:ByteArray×Lst} (hi:L[i]?=some (k,x)) (hnd:(L.map (·.1)).Nodup) (hj:L[j]?=some p) (hji:j<i):p.1≠k:=fun he=>by
 have h1:(L.map (·.1))[i]?=some k:=by rw [List.getElem?_map,hi];rfl
 have h2:(L.map (·.1))[j]?=some k:=by rw [List.getElem?_map,hj,←he];rfl
 have hjl:j<(L.map (·.1)).length:=(List.getElem?_eq_some_iff.1 h2).1;have:=(List.getElem?_inj hjl hnd).1 (h2.trans h1.symm);omega
theorem Jce (B g i:Nat) (bo:Option Nat) (r:Nat) (L:List (ByteArray×Lst)) (k:ByteArray) (x:Lst) (w:World) (h:Lru w B g bo r L) (hi:L[i]?=some (k,x)) (hnd:(L.map (·.1)).Nodup) (hl:L.length≤1000):
  Calls prog 157 #[.pointer (some ⟨g,0,none⟩),.string (k)] w (At (i:Int) w):=by
 obtain⟨A,c,hc⟩:=h.cells;obtain⟨W1,hW1⟩:=words.nm (w.alloc (.cells #[.int .i64 0] 3));have hb1:=words.b1 hW1;have hbk:W1.heap[w.heap.size]?=some (.cells #[.int .i64 0] 3 (0,0)):=by rw [hW1];exact heap_alloc_new w _
 have cg:W1.cell? ⟨g,1,none⟩=some (.slice A L.length c):=(hb1.cell (p:=⟨g,1,none⟩) h.lt.2.1).trans hc.c1;have r0:W1.cell? ⟨w.heap.size,0,none⟩=some (.int .i64 0):=Jaa hbk 0;have f0:W1.frozen? ⟨w.heap.size,0,none⟩=false:=Jab hbk 0;have hk:∀j p,L[j]?=some p→∃b,A=some ⟨b,0,none⟩∧W1.cell? ⟨b,j*3,none⟩=some (.string (p.1)):=fun j p hj=>by
  obtain⟨b,h1,h2,h3,_⟩:=hc.at_ j p hj;exact⟨b,h1,(hb1.cell (p:=⟨b,j*3,none⟩) h2).trans h3⟩
 have hlt:i<L.length:=(List.getElem?_eq_some_iff.1 hi).1;have hE:Tn (fun _=>False) w (W1.setCell ⟨w.heap.size,0,none⟩ (.int .i64 (i:Int))):=by
  rw [hW1];exact ((Tn.refl _ w).alloc _).setCell (.inl (Nat.le_refl _)) _
 have hmf:∀(fn:Fn) (first cap:Array Value) (w:World),(Instr.makeFunc fn first cap).run prog w= .ok (.func fn first cap) w:=fun _ _ _ _=>rfl;have HE:=hid hE;have HK:=hid hk;have HW1:=hid hW1;have HI:=hid hi;have HN:=hid (fun (j:Nat) (p:ByteArray×Lst) (hj:L[j]?=some p) (hji:j<i)=>Jm7 hi hnd hj hji);clear hE hk hW1 hi hnd hc h hb1 hbk;go_enter_defers func157,ntmps157
 go_upto_region 1 with fail
 rw [←HW1.out];go_wp2_with fail
 go_loop [12] (fun v=>∃j:Nat,j≤i∧v= .int .i64 (j:Int)) (fun v=>L.length - (intOf v).toNat)
 case atStart=>exact⟨0,Nat.zero_le _,rfl⟩
 case round=>
  obtain⟨j,hj,rfl⟩:=hrel;have hjl:j<L.length:=by omega
  obtain⟨p,hp⟩:∃p,L[j]?=some p:=⟨_,List.getElem?_eq_getElem hjl⟩
  obtain⟨b,hA,cb⟩:=HK.out j p hp;subst hA;have j0:(0:Int)≤(j:Int):=by omega
  have j1:(j:Int)<(L.length:Int):=by omega
  by_cases hji:j<i
  ·have hne:((p.1).toList==(k).toList)=false:=toListNe (HN.out j p hp hji)
   clear hp;go_wp2_with fail
   go_round
   case rel=>exact⟨j+1,by omega,by go_num⟩
   case measure=>simp [intOf];omega
  ·obtain rfl:j=i:=by omega
   have hpk:p.1=k:=by have:=hp.symm.trans HI.out;injection this with this;rw [this]
   rw [hpk] at cb;have heq:((k).toList==(k).toList)=true:=by simp
   clear hp hpk;go_wp2_with fail
   refine leaves_cons (f:=174) (args:=#[.pointer (some ⟨w.heap.size,0,none⟩)]) (by simp) (by simp [go_sem]) ?_;refine (idle ⟨w.heap.size,0,none⟩ _).mono ?_;rintro e u' w'' ⟨rfl,rfl,rfl⟩;simp [Leaves,settle,results,results157,go_sem];exact⟨_,(by rw [World.cell?_setCell_same _ _ _ r0]),rfl,HE.out⟩
theorem Jlz (B g:Nat) (bo:Option Nat) (r:Nat) (L:List (ByteArray×Lst)) (k:ByteArray) (w:World) (h:Lru w B g bo r L) (hn:∀p∈L,p.1≠k) (hl:L.length≤1000):
  Calls prog 157 #[.pointer (some ⟨g,0,none⟩),.string (k)] w (At (-1) w):=by
 obtain⟨A,c,hc⟩:=h.cells;obtain⟨W1,hW1⟩:=words.nm (w.alloc (.cells #[.int .i64 0] 3));have hb1:=words.b1 hW1;have hbk:W1.heap[w.heap.size]?=some (.cells #[.int .i64 0] 3 (0,0)):=by rw [hW1];exact heap_alloc_new w _
 have cg:W1.cell? ⟨g,1,none⟩=some (.slice A L.length c):=(hb1.cell (p:=⟨g,1,none⟩) h.lt.2.1).trans hc.c1;have r0:W1.cell? ⟨w.heap.size,0,none⟩=some (.int .i64 0):=Jaa hbk 0;have f0:W1.frozen? ⟨w.heap.size,0,none⟩=false:=Jab hbk 0;have hk:∀j p,L[j]?=some p→∃b,A=some ⟨b,0,none⟩∧W1.cell? ⟨b,j*3,none⟩=some (.string (p.1)):=fun j p hj=>by
  obtain⟨b,h1,h2,h3,_⟩:=hc.at_ j p hj;exact⟨b,h1,(hb1.cell (p:=⟨b,j*3,none⟩) h2).trans h3⟩
 have hE:Tn (fun _=>False) w (W1.setCell ⟨w.heap.size,0,none⟩ (.int .i64 (-1))):=by
  rw [hW1];exact ((Tn.refl _ w).alloc _).setCell (.inl (Nat.le_refl _)) _
 have hmf:∀(fn:Fn) (first cap:Array Value) (w:World),(Instr.makeFunc fn first cap).run prog w= .ok (.func fn first cap) w:=fun _ _ _ _=>rfl;have HE:=hid hE;have HK:=hid hk;have HW1:=hid hW1;have HN:=hid hn;clear hE hk hW1 hn hc h hb1 hbk;go_enter_defers func157,ntmps157
 go_upto_region 1 with fail
 rw [←HW1.out];go_wp2_with fail
 go_loop [12] (fun v=>∃j:Nat,j≤L.length∧v= .int .i64 (j:Int)) (fun v=>L.length - (intOf v).toNat)
 case atStart=>exact⟨0,Nat.zero_le _,rfl⟩
 case round=>
  obtain⟨j,hj,rfl⟩:=hrel;have j0:(0:Int)≤(j:Int):=by omega
  by_cases hjl:j<L.length
  ·obtain⟨p,hp⟩:∃p,L[j]?=some p:=⟨_,List.getElem?_eq_getElem hjl⟩
   obtain⟨b,hA,cb⟩:=HK.out j p hp;subst hA;have j1:(j:Int)<(L.length:Int):=by omega
   have hne:((p.1).toList==(k).toList)=false:=toListNe (HN.out p (List.mem_of_getElem? hp));clear hp;go_wp2_with fail
   go_round
   case rel=>exact⟨j+1,by omega,by go_num⟩
   case measure=>simp [intOf];omega
  ·go_wp2_with fail
   refine leaves_cons (f:=174) (args:=#[.pointer (some ⟨w.heap.size,0,none⟩)]) (by simp) (by simp [go_sem]) ?_;refine (idle ⟨w.heap.size,0,none⟩ _).mono ?_;rintro e u' w'' ⟨rfl,rfl,rfl⟩;simp [Leaves,settle,results,results157,go_sem];exact⟨_,(by rw [World.cell?_setCell_same _ _ _ r0]),rfl,HE.out⟩

def Done (Q:World→Prop) (e:Ending) (w':World):Prop:=(∃u,e= .returned u)∧Q w'
theorem infoPair:(Tryz.prog.info? 270).map (·.size)=some 3:=by kernel_rfl
theorem storeRow {w:World} {b:Nat} {cur:Array Value} {t:TypeId} (h:w.heap[b]?=some (.cells cur t (0,0))) (j:Nat) (u:Value):(w.setCell ⟨b,j,none⟩ u).heap[b]?=some (.cells (cur.setIfInBounds j u) t (0,0)):=heap_setCell_same w b j cur t u h
theorem Jej {w W3:World} {B g i r:Nat} {bo:Option Nat} {L:List (ByteArray×Lst)} {b c:Nat} {cur:Array Value} (p:ByteArray×Lst) (h:Lru w B g bo r L) (hi:i<L.length) (hbo:bo=some b) (hW:Tn (Its g bo) w W3)
  (hg:W3.heap[g]?=some (.cells #[.int .i64 (r:Int),.slice (some ⟨b,0,none⟩) L.length c] 225 (0,0))) (hb3:W3.heap[b]?=some (.cells (cur.toList.take 3++(L.take i).flatMap pC++cur.toList.drop (3+((L.take i).flatMap pC).length)).toArray 270 (0,0))) (hBb:B≤b) (h1:L.length≤c) (h2:c≤maxLen) (h3:cur.size=c*3) (h4:cur.toList.take (L.length*3)=L.flatMap pC):
  Lru (((W3.setCell ⟨b,0,none⟩ (.string p.1)).setCell ⟨b,1,none⟩ (.int .i64 p.2.ep)).setCell ⟨b,2,none⟩ (.slice p.2.a p.2.n p.2.c)) B g bo r (p::(L.take i++L.drop (i+1)))∧Tn (Its g bo) w (((W3.setCell ⟨b,0,none⟩ (.string p.1)).setCell ⟨b,1,none⟩ (.int .i64 p.2.ep)).setCell ⟨b,2,none⟩ (.slice p.2.a p.2.n p.2.c)):=by
 have hlt:=h.lt;have hbg:b≠g:=(hlt.2.2 b hbo).2.2;have hIb:Its g bo b:= .inr hbo.symm;have hll:(L.take i).length=i:=by rw [List.length_take];omega
 have hfl:((L.take i).flatMap pC).length=i*3:=by rw [Jb1,hll]
 have hcl:cur.toList.length=c*3:=by simpa using h3
 refine⟨⟨hlt.1,.slice (some ⟨b,0,none⟩) L.length c,by rw [hbo];rfl,?_,?_⟩,?_⟩
 ·rw [Below.heap_setCell _ _ _ _ hbg.symm,Below.heap_setCell _ _ _ _ hbg.symm,Below.heap_setCell _ _ _ _ hbg.symm]
  exact hg
 ·have hL:(p::(L.take i++L.drop (i+1))).length=L.length:=by simp;omega
  rw [hL];have hs:=(storeRow (storeRow (storeRow hb3 0 (.string p.1)) 1 (.int .i64 p.2.ep)) 2 (.slice p.2.a p.2.n p.2.c))
  refine⟨by rw [Jb1,hL],.inr ⟨b,c,_,rfl,hBb,hs,h1,h2,?_,?_⟩⟩
  ·simp only [Array.size_setIfInBounds,List.size_toArray,List.length_append,List.length_take,List.length_drop]
   rw [hfl,hcl];omega
  ·rw [Array.toList_setIfInBounds,Array.toList_setIfInBounds,Array.toList_setIfInBounds]
   exact Jdi p hi h4
 ·exact (((hW.setCell (p:=⟨b,0,none⟩) (.inr hIb) _).setCell (p:=⟨b,1,none⟩) (.inr hIb) _).setCell (p:=⟨b,2,none⟩) (.inr hIb) _)
def Front (w:World) (B g i r:Nat) (bo:Option Nat) (L:List (ByteArray×Lst)) (p:ByteArray×Lst) (w':World):Prop:=Lru w' B g bo r (p::(L.take i++L.drop (i+1)))∧Tn (Its g bo) w w'
theorem Jav (B g i:Nat) (bo:Option Nat) (r:Nat) (L:List (ByteArray×Lst)) (p:ByteArray×Lst) (w:World) (h:Lru w B g bo r L) (hi:i<L.length) (hl:L.length≤1000):
  Calls prog 158 #[.pointer (some ⟨g,0,none⟩),.int .i64 (i:Int),.agg #[.string p.1,.int .i64 p.2.ep,.slice p.2.a p.2.n p.2.c]] w (Done (Front w B g i r bo L p)):=by
 obtain⟨b,c,cur,hbo,hg,hb,hBb,h1,h2,h3,h4⟩:=h.row (by omega);have hbg:b≠g:=(h.lt.2.2 b hbo).2.2;obtain⟨W1,hW1⟩:=words.nm (w.alloc (.cells #[.string p.1,.int .i64 p.2.ep,.slice p.2.a p.2.n p.2.c] 270));have hb1:=words.b1 hW1;have hT:=Tn.of_below hb1 (fun _=>False);have hpk:W1.heap[w.heap.size]?=some (.cells #[.string p.1,.int .i64 p.2.ep,.slice p.2.a p.2.n p.2.c] 270 (0,0)):=by rw [hW1];exact heap_alloc_new w _
 have hgk:=(hb1.block _ (lt_of_some hg)).trans hg;have hbk:=(hb1.block _ (lt_of_some hb)).trans hb;have cg:W1.cell? ⟨g,1,none⟩=some (.slice (some ⟨b,0,none⟩) L.length c):=Jaa hgk 1;obtain⟨D,hD⟩:∃D:Option Addr,D=if c=1 then some ⟨b,0,none⟩ else (some ⟨b,0,none⟩:Option Addr).map (·.add (1*3)):=⟨_,rfl⟩
 have hi1:IntKind.i64.wrap ((i:Int)+1)=(i:Int)+1:=IntWalk.i64_in _ (by omega);unfold maxLen at h2;have hsl:∀W:World,(Instr.slice 223 (.slice (some ⟨b,0,none⟩) L.length c) (some (.int .i64 1)) (some (.int .i64 ((i:Int)+1))) none).run prog W= .ok (.slice D i (c - 1)) W:=fun W=>by
  have he:Tryz.prog.elem 223=270:=by kernel_rfl
  rw [run_slice_lh (P:=prog) W 223 _ _ _ (by kernel_rfl) .i64 .i64 1 ((i:Int)+1) (by omega) (by omega) (by omega),he,hD];rcases hq:Tryz.prog.info? 270 with _ |y
  ·have:=infoPair;rw [hq] at this;cases this
  ·have hy:y.size=3:=by have:=infoPair;rw [hq] at this;simpa using this
   simp [sizeOf,typeInfo,hq,hy,Result.andThen,sliced]
 obtain⟨X,hX⟩:=words.nm ((L.take i).flatMap pC);have hXl:X.length=i*3:=by rw [hX,Jb1,List.length_take];congr 1;omega
 obtain⟨W2,hW2⟩:=words.nm (W1.drew.setRow b (cur.toList.take 3++X++cur.toList.drop (3+X.length)).toArray);have hcl:cur.toList.length=c*3:=by simpa using h3
 have hpos:0<i→D=some ⟨b,3,none⟩∧∃a,(some ⟨b,0,none⟩:Option Addr)=some a∧∀j v,X[j]?=some v→W1.cell? (a.add j)=some v:=fun h0=>by
  refine⟨?_,_,rfl,fun j v hj=>?_⟩
  ·rw [hD,if_neg (by omega),Option.map_some]
   congr 1
  ·have hjl:j<X.length:=(List.getElem?_eq_some_iff.1 hj).1
   rw [show (⟨b,0,none⟩:Addr).add j=⟨b,j,none⟩ by unfold Addr.add;split<;>simp_all,Jaa hbk,←Array.getElem?_toList];rw [hX,←Jjf,←h4,List.getElem?_take,List.getElem?_take] at hj;split at hj
   ·split at hj
    ·exact hj
    ·cases hj
   ·cases hj
 have hfit:3+X.length≤cur.size:=by rw [hXl];omega
 have hone:∀v∈X,v.oneCell'=true:=fun v hv=>Ji5 _ v (by rw [hX] at hv;exact hv);have hmin:i=Nat.min i i:=by simp
 have hg2:W2.heap[g]?=W1.heap[g]?:=by rw [hW2,setRow_other _ _ _ _ hbg.symm];rfl
 have cg2:W2.cell? ⟨g,1,none⟩=some (.slice (some ⟨b,0,none⟩) L.length c):=Jaa (hg2.trans hgk) 1;have hbk2:W2.heap[b]?=some (.cells (cur.toList.take 3++X++cur.toList.drop (3+X.length)).toArray 270 (0,0)):=by rw [hW2];exact setRow_heap W1.drew b cur _ _ _ hbk
 have hpb:w.heap.size≠b:=Nat.ne_of_gt (h.lt.2.2 b hbo).2.1;have hpk2:W2.heap[w.heap.size]?=some (.cells #[.string p.1,.int .i64 p.2.ep,.slice p.2.a p.2.n p.2.c] 270 (0,0)):=by rw [hW2,setRow_other _ _ _ _ hpb];exact hpk
 have p0:W2.cell? ⟨w.heap.size,0,none⟩=some (.string p.1):=Jaa hpk2 0;have p1:W2.cell? ⟨w.heap.size,1,none⟩=some (.int .i64 p.2.ep):=Jaa hpk2 1;have p2:W2.cell? ⟨w.heap.size,2,none⟩=some (.slice p.2.a p.2.n p.2.c):=Jaa hpk2 2;have hlen2:3≤(cur.toList.take 3++X++cur.toList.drop (3+X.length)).length:=by simp;omega
 obtain⟨v0,d0⟩:∃v,W2.cell? ⟨b,0,none⟩=some v:=⟨_,(Jaa hbk2 0).trans (Array.getElem?_eq_getElem (by rw [List.size_toArray];omega))⟩
 obtain⟨v1,d1⟩:∃v,W2.cell? ⟨b,1,none⟩=some v:=⟨_,(Jaa hbk2 1).trans (Array.getElem?_eq_getElem (by rw [List.size_toArray];omega))⟩
 obtain⟨v2,d2⟩:∃v,W2.cell? ⟨b,2,none⟩=some v:=⟨_,(Jaa hbk2 2).trans (Array.getElem?_eq_getElem (by rw [List.size_toArray];omega))⟩
 have f0:W2.frozen? ⟨b,0,none⟩=false:=Jab hbk2 0;have f1:W2.frozen? ⟨b,1,none⟩=false:=Jab hbk2 1;have f2:W2.frozen? ⟨b,2,none⟩=false:=Jab hbk2 2;have hTW:Tn (Its g bo) w W2:=by
  rw [hW2];exact (hT.drew.mono fun _ hc=>hc.elim).setRow (.inr (.inr hbo.symm)) _
 have hE:=Jej (W3:=W2) p h hi hbo hTW (hg2.trans hgk) (by rw [hX] at hbk2;exact hbk2) hBb h1 (by unfold maxLen;omega) h3 h4;have i0:(0:Int)≤(i:Int):=by omega
 have i1:(i:Int)≤(c:Int):=by omega
 have i2:(0:Int)<(L.length:Int):=by omega
 have i3:0<L.length:=by omega
 have HE:=hid hE;have HW1:=hid hW1;have HW2:=hid hW2;have HXl:=hid hXl;have HBK:=hid hbk;have HPOS:=hid hpos;have HMIN:=hid hmin;have HONE:=hid hone;have HFIT:=hid hfit;clear hE hTW hW1 hW2 hXl hbk hpos hmin hone hfit hX hD hg hb hg2 hbk2 hpk hpk2 hgk hcl h3 h4 hlen2 hT hb1 h hbo hpb;go_enter func158,ntmps158
 go_upto_region 1 with fail
 rw [←HW1.out];go_region_law (refine Jc9 _ rfl (.tmp 12) (.tmp 18) 223 223 rfl 270 i 3 D (some ⟨b,0,none⟩) i (c - 1) i c underlying223 infoPair HMIN.out rfl rfl b 3 cur 270 (by first |exact HBK.out) X HXl.out HPOS.out HFIT.out HONE.out ?_;rw [←HW2.out])
 all_goals
  go_wp2_with fail
  go_region
 all_goals
  go_end0
  exact⟨⟨_,rfl⟩,HE.out.1.drewn,HE.out.2.drew⟩
theorem Jek (B g n:Nat) (bo:Option Nat) (L:List (ByteArray×Lst)) (p:ByteArray×Lst) (w:World) (h:Lru w B g bo (n+1) L) (hn:L.length=n+1) (hp:L[n]?=some p) (hl:L.length≤1000):
  Calls prog 159 #[.pointer (some ⟨g,0,none⟩)] w fun e w'=>e= .returned (.tuple #[.int .i64 (n:Int),.string (p.1),.bool true])∧Tn (fun _=>False) w w':=by
 obtain⟨A,c,hc⟩:=h.cells;obtain⟨b,hA,_,cb,_⟩:=hc.at_ n p hp;subst hA;have c0:=hc.c0;have c1:=hc.c1;rw [hn] at c1;have hs:IntKind.i64.wrap (((n+1:Nat):Int) - 1)=(n:Int):=by rw [IntWalk.i64_in _ (by omega)];omega
 have i0:(0:Int)≤(n:Int):=by omega
 have i1:(n:Int)<((n+1:Nat):Int):=by omega
 have hs2:IntKind.i64.wrap (n:Int)=(n:Int):=IntWalk.i64_in _ (by omega);have i2:(n:Int)<(n:Int)+1:=by omega
 have ht:(((n+1:Nat):Int)==((n+1:Nat):Int))=true:=by simp
 have HN:=hid hn;clear hc h hp hn;go_enter func159,ntmps159
 go_wp2_with fail
 go_region
 all_goals
  go_wp2_with fail
  go_ret3
  exact⟨rfl,(Tn.refl _ w).drew⟩

theorem infoPr:(Tryz.prog.info? 270).map (fun i=>(i.zero,i.size,i.bytes))=some (some (.agg #[.string ⟨#[]⟩,.int .i64 0,.slice none 0 0]),3,48):=by kernel_rfl
theorem Jfj {w W1 w2:World} {B g r b c:Nat} {bo:Option Nat} {v:Value} {L:List (ByteArray×Lst)} {p:ByteArray×Lst} (hB:B≤g) (hvo:v.ownBlock=bo) (hg:W1.heap[g]?=some (.cells #[.int .i64 (r:Int),v] 225 (0,0))) (ho:W1.ownsRow B 270 3 v L.length (L.flatMap pC))
  (hW:Tn (fun _=>False) w W1) (ho':w2.ownsRow B 270 3 (.slice (some ⟨b,0,none⟩) (L.length+1) c) (L.length+1) (L.flatMap pC++pC p)) (hgr:W1.grownBy w2 v.ownBlock) (hat:v.ownBlock=some b∨b=W1.heap.size):
  Left w B g r bo (L++[p]) (w2.setCell ⟨g,1,none⟩ (.slice (some ⟨b,0,none⟩) (L.length+1) c)):=by
 have hgv:v.ownBlock≠some g:=Jay ho hg (by decide);have hg2:w2.heap[g]?=some (.cells #[.int .i64 (r:Int),v] 225 (0,0)):=(hgr.block g (lt_of_some hg) (fun e=>hgv e.symm)).trans hg;refine⟨⟨some b,⟨hB,.slice (some ⟨b,0,none⟩) (L.length+1) c,rfl,heap_setCell_same w2 g 1 _ _ _ hg2,?_⟩,fun b' hb'=>?_⟩,?_⟩
 ·rw [List.length_append,List.flatMap_append,List.flatMap_singleton]
  exact Jaq ho' (Jay ho' hg2 (by decide)) _
 ·injection hb' with hb'
  subst hb';rcases hat with hat |hat
  ·exact .inl (hvo▸hat)
  ·right
   rw [hat];exact hW.size
 ·refine ((hW.mono fun _ hc=>hc.elim).grown hgr fun k hk=> .inr (.inr ?_)).setCell (p:=⟨g,1,none⟩) (.inr (.inl rfl)) _
  rw [←hvo,hk]
def Placed (w:World) (B g r:Nat) (bo:Option Nat) (L:List (ByteArray×Lst)) (e:Ending) (w':World):Prop:=
 e= .returned (.tuple #[.int .i64 (L.length:Int),.string ⟨#[]⟩,.bool false])∧Left w B g r bo (L++[((⟨#[]⟩:ByteArray),e0)]) w'
theorem Jf0 (B g:Nat) (bo:Option Nat) (r:Nat) (L:List (ByteArray×Lst)) (w:World) (h:Lru w B g bo r L) (hr:L.length<r) (hl:L.length≤1000) (hB:B≤w.heap.size):
  Calls prog 159 #[.pointer (some ⟨g,0,none⟩)] w (Placed w B g r bo L):=by
 obtain⟨i1,hi',hw0,hw1,hw2⟩:=Jap infoPr;obtain⟨hBg,v,hvo,hg,ho⟩:=h;obtain⟨A,l,c,rfl⟩:=Jd1 ho;obtain rfl:l=L.length:=by
  rcases ho.2 with⟨he,h0⟩ |⟨_,_,_,he,_⟩
  ·injection he with _ he _;omega
  ·injection he
 obtain⟨W1,hW1⟩:=words.nm (w.alloc (.cells #[.string ⟨#[]⟩,.int .i64 0,.slice none 0 0] 270));have hb1:=words.b1 hW1;have hT:=Tn.of_below hb1 (fun _=>False);have hg1:=(hb1.block _ (lt_of_some hg)).trans hg;have ho1:W1.ownsRow B 270 3 (.slice A L.length c) L.length (L.flatMap pC):=hT.own ho fun _ _ hc=>hc;have hn1:∀j u,(pC (((⟨#[]⟩:ByteArray),e0):ByteArray×Lst))[j]?=some u→W1.cell? ((⟨w.heap.size,0,none⟩:Addr).add j)=some u:=by
  rw [hW1];exact World.news_of_block (cs:=#[.string ⟨#[]⟩,.int .i64 0,.slice none 0 0]) (heap_alloc_new w _)
 have hz1:W1.heap.size=w.heap.size+1:=by rw [hW1];simp
 have c0:w.cell? ⟨g,0,none⟩=some (.int .i64 (r:Int)):=Jaa hg 0;have c1:w.cell? ⟨g,1,none⟩=some (.slice A L.length c):=Jaa hg 1;have hne:((L.length:Int)==(r:Int))=false:=by simp;omega
 have hne2:(L.length==r)=false:=by simp;omega
 have hB1:B≤W1.heap.size:=by omega
 have hone:=Jip (((⟨#[]⟩:ByteArray),e0):ByteArray×Lst);have HW1:=hid hW1;have HO:=hid ho1;have HG:=hid hg1;have HN:=hid hn1;have HT:=hid hT;have HONE:=hid hone;have HVO:=hid hvo;clear hW1 ho hg1 ho1 hn1 hT hb1 hone hvo hg;go_enter func159,ntmps159
 go_wp2_with (at_builtin;rw [←HW1.out];refine wpList_append_lies _ rfl (.tmp 32) (.tmp 34) 223 rfl B 270 i1 _ 3 48 underlying223 hi' hw0 hw1 hw2 rfl (by omega) (.slice A L.length c) L.length (L.flatMap pC) rfl HO.out ⟨w.heap.size,0,none⟩ 1 1 (pC (((⟨#[]⟩:ByteArray),e0):ByteArray×Lst)) rfl rfl HN.out HONE.out (by omega) (by simp only [maxLen];omega) (by omega) hB1 W1.heap.size rfl ?_;intro gb cap w5 hown5 hgrow5 hat5 hlt5;have hE:=Jfj (r:=r) hBg HVO.out HG.out HO.out HT.out hown5 hgrow5 hat5;have hg5:=(hgrow5.block g (lt_of_some HG.out) (fun e=>Jay HO.out HG.out (by decide) e.symm)).trans HG.out;have hc5:=Jaa hg5 1;have hf5:=Jab hg5 1;have HE:=hid hE;clear hE hg5 hown5 hgrow5 hat5)
 go_ret3
 exact⟨rfl,HE.out⟩

theorem new_any (r:Nat) (room:Int) (w:World) (hr:(r:Int)=max room 1):
  Calls prog 104 #[.int .i64 room] w fun e w'=>e= .returned (.pointer (some ⟨w.heap.size,0,none⟩))∧w'=w.alloc (.cells #[.int .i64 (r:Int),.slice none 0 0] 225):=by
 have hm:max room 1=(r:Int):=hr.symm;clear hr;go_enter func104,ntmps104
 go_wp2
 go_ret
 exact⟨rfl,rfl⟩
theorem Jjx (w:World) (B r:Nat) (hB:B≤w.heap.size):Lru (w.alloc (.cells #[.int .i64 (r:Int),.slice none 0 0] 225)) B w.heap.size none r []:=
 ⟨hB,.slice none 0 0,rfl,heap_alloc_new w _,World.ownsRow_nil _ _ _ _⟩
theorem Jgg (B g:Nat) (bo:Option Nat) (r:Nat) (L:List (ByteArray×Lst)) (w:World) (h:Lru w B g bo r L):
  Calls prog 82 #[.pointer (some ⟨g,0,none⟩)] w fun e w'=>e= .returned (.int .i64 (L.length:Int))∧w=w':=by
 obtain⟨A,c,hc⟩:=h.cells;have c1:=hc.c1;clear hc h;go_enter func82,ntmps82
 go_wp2
 go_ret
 exact⟨rfl,rfl⟩
def gotI (L:List (ByteArray×Lst)) (k:ByteArray):Lst:=(val L k).getD e0
def gotB (L:List (ByteArray×Lst)) (k:ByteArray):Bool:=(val L k).isSome
def Got (w:World) (B g r:Nat) (bo:Option Nat) (L:List (ByteArray×Lst)) (k:ByteArray) (e:Ending) (w':World):Prop:=
 e= .returned (.tuple #[.agg #[.int .i64 (gotI L k).ep,.slice (gotI L k).a (gotI L k).n (gotI L k).c],.bool (gotB L k)])∧Left w B g r bo (getL L k) w'
def PutIn (w:World) (B g r:Nat) (bo:Option Nat) (L:List (ByteArray×Lst)) (k:ByteArray) (v:Lst) (e:Ending) (w':World):Prop:=
 e= .returned (.tuple #[.string (goneK L r k (⟨#[]⟩:ByteArray)),.bool (goneB L r k)])∧Left w B g r bo (putL L r k v) w'
theorem Left.of_same {w w1 w':World} {B g r:Nat} {bo:Option Nat} {L:List (ByteArray×Lst)} (h1:Tn (fun _=>False) w w1) (h:Lru w' B g bo r L) (h2:Tn (Its g bo) w1 w'):Left w B g r bo L w':=
 ⟨⟨bo,h,fun _ hb=> .inl hb⟩,(h1.mono fun _ hc=>hc.elim).trans h2⟩
theorem Left.over {w W0 w3 w4:World} {B g r q:Nat} {bo:Option Nat} {L L0:List (ByteArray×Lst)} (h:Left W0 B g r bo L w3) (h0:Below w.heap.size w W0) (hl:Lru w B g bo r L0) (hq:w.heap.size≤q) (hq0:q<W0.heap.size) (h4:Tn (fun k=>k=q) w3 w4):Left w B g r bo L w4:=by
 obtain⟨bo',h1,h2⟩:=h.ex;have hlt:=hl.lt;refine⟨⟨bo',h1.tn h4 fun k hk e=>?_,fun b hb=>(h2 b hb).imp_right fun hx=>Nat.le_trans h0.size hx⟩,?_⟩
 ·subst e
  rcases hk with rfl |hk
  ·omega
  ·rcases h2 k hk.symm with hb |hb
   ·have:=(hlt.2.2 k hb).2.1;omega
   ·omega
 ·have h3:Tn (Its g bo) w w3:=(Tn.of_below h0 _).trans h.tn
  exact h3.then h4 fun k hk e=>by omega
theorem Left.under {w W0 w3:World} {B g r:Nat} {bo:Option Nat} {L:List (ByteArray×Lst)} (h:Left W0 B g r bo L w3) (h0:Below w.heap.size w W0):Left w B g r bo L w3:=by
 obtain⟨bo',h1,h2⟩:=h.ex;exact⟨⟨bo',h1,fun b hb=>(h2 b hb).imp_right fun hx=>Nat.le_trans h0.size hx⟩,(Tn.of_below h0 _).trans h.tn⟩
theorem Jjn (B g:Nat) (bo:Option Nat) (r:Nat) (L:List (ByteArray×Lst)) (k:ByteArray) (w:World) (h:Lru w B g bo r L) (hok:Ok L r) (hl:L.length≤1000):
  Calls prog 133 #[.pointer (some ⟨g,0,none⟩),.string k] w (Got w B g r bo L k):=by
 obtain⟨W0,hW0⟩:=words.nm (w.alloc (.cells #[.int .i64 0,.slice none 0 0] 122));have hb0:=words.b1 hW0;have hz0:W0.heap[w.heap.size]?=some (.cells #[.int .i64 0,.slice none 0 0] 122 (0,0)):=by rw [hW0];exact heap_alloc_new w _
 have h0:Lru W0 B g bo r L:=h.quiet (Tn.of_below hb0 _);have hq0:w.heap.size<W0.heap.size:=lt_of_some hz0;rcases there L k with⟨i,x,hi⟩ |hn
 ·obtain⟨hv,hg⟩:=Jq8 hok hi
  have hlt:i<L.length:=(List.getElem?_eq_some_iff.1 hi).1;have HAT:=hid (Jce B g i bo r L k x W0 h0 hi hok.nd hl);have e1:gotI L k=x:=by unfold gotI;rw [hv];rfl
  have e2:gotB L k=true:=by unfold gotB;rw [hv];rfl
  unfold Got;rw [e1,e2,hg];have H:=hid h;have H0:=hid h0;have HI:=hid hi;have HB0:=hid hb0;have HZ0:=hid hz0;have HQ0:=hid hq0;have HW0:=hid hW0;have i0:¬(i:Int)<0:=by omega
  have i00:(0:Int)≤(i:Int):=by omega
  have i1:(i:Int)<(L.length:Int):=by omega
  clear h h0 hv hg hi hok e1 e2 hb0 hz0 hW0 hq0;go_enter func133,ntmps133
  go_upto_region 1 with fail
  rw [←HW0.out];go_wp2_with fail
  refine HAT.out.mono ?_;rintro e w1 ⟨rfl,ht⟩;have h1:=H0.out.quiet ht;obtain⟨A,c,hc⟩:=h1.cells;obtain⟨b,hA,hbl,d0,d1,d2⟩:=hc.at_ i (k,x) HI.out;subst hA;have c1:=hc.c1;obtain⟨W2,hW2⟩:=words.nm (w1.alloc (.cells #[.string k,.int .i64 x.ep,.slice x.a x.n x.c] 270));have ht2:Tn (fun _=>False) w1 W2:=by rw [hW2];exact (Tn.refl _ _).alloc _
  have hbk:W2.heap[w1.heap.size]?=some (.cells #[.string k,.int .i64 x.ep,.slice x.a x.n x.c] 270 (0,0)):=by rw [hW2];exact heap_alloc_new w1 _
  have q0:=Jaa hbk 0;have q1:=Jaa hbk 1;have q2:=Jaa hbk 2;have HAH:=hid (Jav B g i bo r L (k,x) W2 (h1.quiet ht2) hlt hl);have HT2:=hid ((ht.trans ht2));have HS1:=hid ht.size;have HW2:=hid hW2;have HBK:=hid hbk;clear hW2 hbk hc h1 ht ht2;go_upto_region 6 with fail
  rw [←HW2.out];go_wp2_with fail
  refine HAH.out.mono ?_;rintro e w3 ⟨⟨u,rfl⟩,hf1,hf2⟩;have hE:=Left.of_same HT2.out hf1 hf2;have hfar:∀q,w.heap.size≤q→¬Its g bo q:=fun q hq hc=>by
   rcases hc with hc |hc
   ·have:=H.out.lt.2.1;omega
   ·have:=H.out.lt.2.2 _ hc.symm;omega
  have hq:w3.heap[w1.heap.size]?=some (.cells #[.string k,.int .i64 x.ep,.slice x.a x.n x.c] 270 (0,0)):=(hf2.block _ (lt_of_some HBK.out) (hfar _ (Nat.le_trans (Nat.le_of_lt HQ0.out) HS1.out))).trans HBK.out;have hzb:w3.heap[w.heap.size]?=some (.cells #[.int .i64 0,.slice none 0 0] 122 (0,0)):=(hE.tn.block _ HQ0.out (hfar _ (Nat.le_refl _))).trans HZ0.out;have s0:=Jaa hq 0;have s1:=Jaa hq 1;have s2:=Jaa hq 2;have z0:=Jaa hzb 0;have fz0:=Jab hzb 0;have z1:=Jaa hzb 1;have fz1:=Jab hzb 1;have HZB:=hid hzb;have HE:=hid hE;clear hE hf1 hf2 hq hzb hfar;go_wp2_with fail
  obtain⟨W9,hW9⟩:=words.nm (((w3.setCell ⟨w.heap.size,0,none⟩ (.int .i64 x.ep)).setCell ⟨w.heap.size,1,none⟩ (.slice x.a x.n x.c)));have h9:W9=setsV w3 w.heap.size 0 [.int .i64 x.ep,.slice x.a x.n x.c]:=hW9;rw [←hW9];have hbk9:W9.heap[w.heap.size]?=some (.cells #[.int .i64 x.ep,.slice x.a x.n x.c] 122 (0,0)):=by rw [h9];exact Jak HZB.out rfl
  have hE9:Left w B g r bo ((k,x)::(L.take i++L.drop (i+1))) W9:=HE.out.over HB0.out H.out (Nat.le_refl _) HQ0.out (by rw [h9];exact Jan (S:=fun k=>k=w.heap.size) _ (.inr rfl) _ _ _ (Tn.refl _ _));have y0:=Jaa hbk9 0;have y1:=Jaa hbk9 1;exact bodyPost_ret (v:= .tuple #[.agg #[.int .i64 x.ep,.slice x.a x.n x.c],.bool true]) (by simp [results,results133,go_sem,y0,y1]) rfl ⟨rfl,hE9⟩
 ·obtain⟨hv,hg⟩:=Jlo hn
  have HAT:=hid (Jlz B g bo r L k W0 h0 hn hl);have e1:gotI L k=e0:=by unfold gotI;rw [hv];rfl
  have e2:gotB L k=false:=by unfold gotB;rw [hv];rfl
  unfold Got;rw [e1,e2,hg];have H:=hid h;have H0:=hid h0;have HB0:=hid hb0;have HZ0:=hid hz0;have HQ0:=hid hq0;have HW0:=hid hW0;clear h h0 hv hg hok e1 e2 hn hb0 hz0 hW0 hq0;go_enter func133,ntmps133
  go_upto_region 1 with fail
  rw [←HW0.out];go_wp2_with fail
  refine HAT.out.mono ?_;rintro e w1 ⟨rfl,ht⟩;obtain⟨W2,hW2⟩:=words.nm (w1.alloc (.cells #[.int .i64 0,.slice none 0 0] 122));have ht2:Tn (fun _=>False) W0 W2:=by rw [hW2];exact ht.alloc _
  have hE:Left W0 B g r bo L W2:=Left.of_same ht2 (H0.out.quiet ht2) (Tn.refl _ _);have hzb:W2.heap[w.heap.size]?=some (.cells #[.int .i64 0,.slice none 0 0] 122 (0,0)):=(ht2.block _ HQ0.out (fun hc=>hc)).trans HZ0.out;have hbk:W2.heap[w1.heap.size]?=some (.cells #[.int .i64 0,.slice none 0 0] 122 (0,0)):=by rw [hW2];exact heap_alloc_new w1 _
  have q0:=Jaa hbk 0;have q1:=Jaa hbk 1;have z0:=Jaa hzb 0;have fz0:=Jab hzb 0;have z1:=Jaa hzb 1;have fz1:=Jab hzb 1;have HE:=hid hE;have HZB:=hid hzb;have HW2:=hid hW2;clear hE ht ht2 hzb hbk hW2;go_upto_region 4 with fail
  rw [←HW2.out];go_wp2_with fail
  obtain⟨W9,hW9⟩:=words.nm (((W2.setCell ⟨w.heap.size,0,none⟩ (.int .i64 0)).setCell ⟨w.heap.size,1,none⟩ (.slice none 0 0)));have h9:W9=setsV W2 w.heap.size 0 [.int .i64 0,.slice none 0 0]:=hW9;rw [←hW9];have hbk9:W9.heap[w.heap.size]?=some (.cells #[.int .i64 0,.slice none 0 0] 122 (0,0)):=by rw [h9];exact Jak HZB.out rfl
  have hE9:Left w B g r bo L W9:=HE.out.over HB0.out H.out (Nat.le_refl _) HQ0.out (by rw [h9];exact Jan (S:=fun k=>k=w.heap.size) _ (.inr rfl) _ _ _ (Tn.refl _ _));have y0:=Jaa hbk9 0;have y1:=Jaa hbk9 1;exact bodyPost_ret (v:= .tuple #[.agg #[.int .i64 0,.slice none 0 0],.bool false]) (by simp [results,results133,go_sem,y0,y1]) rfl ⟨rfl,hE9⟩
theorem Left.front {w w1 w':World} {B g r i:Nat} {bo bo1:Option Nat} {L:List (ByteArray×Lst)} {p:ByteArray×Lst} (h1:Tn (Its g bo) w w1) (hbo:∀b,bo1=some b→bo=some b∨w.heap.size≤b) (hf:Front w1 B g i r bo1 L p w'):Left w B g r bo (p::(L.take i++L.drop (i+1))) w':=
 ⟨⟨bo1,hf.1,hbo⟩,h1.then hf.2 fun k hk hs=>by
   rcases hs with rfl |hs
   ·exact .inl rfl
   ·rcases hbo k hs.symm with h |h
    ·exact .inr h.symm
    ·omega⟩
theorem Jeg (B g:Nat) (bo:Option Nat) (r:Nat) (L:List (ByteArray×Lst)) (k:ByteArray) (v:Lst) (w:World) (h:Lru w B g bo r L) (hok:Ok L r) (hl:L.length≤900) (hB:B≤w.heap.size):
  Calls prog 134 #[.pointer (some ⟨g,0,none⟩),.string (k),.agg #[.int .i64 v.ep,.slice v.a v.n v.c]] w (PutIn w B g r bo L k v):=by
 unfold PutIn;obtain⟨W0,hW0⟩:=words.nm (w.alloc (.cells #[.int .i64 v.ep,.slice v.a v.n v.c] 122));have hb0:=words.b1 hW0;have hz0:W0.heap[w.heap.size]?=some (.cells #[.int .i64 v.ep,.slice v.a v.n v.c] 122 (0,0)):=by rw [hW0];exact heap_alloc_new w _
 have HU:Hid (∀(L':List (ByteArray×Lst)) (w3:World),Left W0 B g r bo L' w3→Left w B g r bo L' w3):=hid fun L' w3 hx=>hx.under hb0;have HBX:Hid (∀(wr:World),Tn (Its g bo) W0 wr→wr.heap[w.heap.size]?=some (.cells #[.int .i64 v.ep,.slice v.a v.n v.c] 122 (0,0))):=hid fun wr hx=>(hx.block _ (lt_of_some hz0) (fun hc=>by
     rcases hc with hc |hc
     ·have:=h.lt.2.1;omega
     ·have:=h.lt.2.2 _ hc.symm;omega)).trans hz0
 have h':Lru W0 B g bo r L:=h.quiet (Tn.of_below hb0 _);have hB':B≤W0.heap.size:=Nat.le_trans hB hb0.size;have HW0:=hid hW0;clear hW0 hb0 hz0 h hB;have h:=h';have hB:=hB';clear h' hB';rcases there L k with⟨i,x,hi⟩ |hn
 ·obtain⟨e1,e2,e3⟩:=Jre hok hi v (⟨#[]⟩:ByteArray)
  have hlt:i<L.length:=(List.getElem?_eq_some_iff.1 hi).1;have HAT:=hid (Jce B g i bo r L k x W0 h hi hok.nd (by omega));rw [e1,e2,e3];have H:=hid h;have i0:¬(i:Int)<0:=by omega
  clear h hi hok e1 e2 e3;go_enter func134,ntmps134
  go_upto_region 1 with fail
  rw [←HW0.out];go_wp2_with fail
  refine HAT.out.mono ?_;rintro e w1 ⟨rfl,ht⟩;have HAH:=hid (Jav B g i bo r L (k,v) w1 (H.out.quiet ht) hlt (by omega));have HT:=hid ht;have b0:=Jaa (HBX.out w1 (ht.mono fun _ hc=>hc.elim)) 0;have b1:=Jaa (HBX.out w1 (ht.mono fun _ hc=>hc.elim)) 1;clear ht;go_wp2_with fail
  refine HAH.out.mono ?_;rintro e w3 ⟨⟨u,rfl⟩,hf1,hf2⟩;have HE:=hid (Left.of_same HT.out hf1 hf2);clear hf1 hf2;go_wp2_with fail
  go_ret2
  exact⟨rfl,HU.out _ _ HE.out⟩
 ·have HAT:=hid (Jlz B g bo r L k W0 h hn (by omega))
  by_cases hr:L.length<r
  ·obtain⟨e1,e2,e3⟩:=Jhx hn hr v (⟨#[]⟩:ByteArray)
   rw [e1,e2,e3];have H:=hid h;clear h hok e1 e2 e3 hn;go_enter func134,ntmps134
   go_upto_region 1 with fail
   rw [←HW0.out];go_wp2_with fail
   refine HAT.out.mono ?_;rintro e w1 ⟨rfl,ht⟩;have HP:=hid (Jf0 B g bo r L w1 (H.out.quiet ht) hr (by omega) (by have:=ht.size;omega));have HT:=hid ht;clear ht;go_wp2_with fail
   refine HP.out.mono ?_;rintro e w2 ⟨rfl,⟨bo2,hL2,hbo2⟩,ht2⟩;have hlen:(L++[(((⟨#[]⟩:ByteArray),e0):ByteArray×Lst)]).length=L.length+1:=by simp
   have HAH:=hid (Jav B g L.length bo2 r _ (k,v) w2 hL2 (by rw [hlen];omega) (by rw [hlen];omega));have HT2:=hid ((HT.out.mono (S':=Its g bo) fun _ hc=>hc.elim).trans ht2);have HBO:=hid (fun b hb=>(hbo2 b hb).imp_right fun h=>Nat.le_trans HT.out.size h);have b0:=Jaa (HBX.out w2 HT2.out) 0;have b1:=Jaa (HBX.out w2 HT2.out) 1;clear hL2 hbo2 ht2 hlen;go_wp2_with fail
   refine HAH.out.mono ?_;rintro e w3 ⟨⟨u,rfl⟩,hf⟩;have hE:=Left.front HT2.out HBO.out hf;rw [List.take_left,List.drop_of_length_le (by simp),List.append_nil] at hE;have HE:=hid hE;clear hE hf;go_wp2_with fail
   go_ret2
   exact⟨rfl,HU.out _ _ HE.out⟩
  ·obtain⟨n,hn1⟩:∃n,L.length=n+1:=⟨L.length - 1,by have:=hok.pos;have:=hok.len;omega⟩
   obtain rfl:r=n+1:=by have:=hok.len;omega
   obtain⟨p,hp⟩:∃p,L[n]?=some p:=⟨_,List.getElem?_eq_getElem (by omega)⟩
   obtain⟨e1,e2,e3⟩:=Jkf hn hn1 hp v (⟨#[]⟩:ByteArray);rw [e1,e2,e3];have H:=hid h;have HP1:=hid hp;have HN1:=hid hn1;have i0:¬(n:Int)<0:=by omega
   clear h hok e1 e2 e3 hn hr hp;go_enter func134,ntmps134
   go_upto_region 1 with fail
   rw [←HW0.out];go_wp2_with fail
   refine HAT.out.mono ?_;rintro e w1 ⟨rfl,ht⟩;have HP:=hid (Jek B g n bo L p w1 (H.out.quiet ht) HN1.out HP1.out (by omega));have HT:=hid ht;clear ht;go_wp2_with fail
   refine HP.out.mono ?_;rintro e w2 ⟨rfl,ht2⟩;have HAH:=hid (Jav B g n bo (n+1) L (k,v) w2 ((H.out.quiet HT.out).quiet ht2) (by omega) (by omega));have HT2:=hid (HT.out.trans ht2);have b0:=Jaa (HBX.out w2 (HT2.out.mono fun _ hc=>hc.elim)) 0;have b1:=Jaa (HBX.out w2 (HT2.out.mono fun _ hc=>hc.elim)) 1;clear ht2;go_wp2_with fail
   refine HAH.out.mono ?_;rintro e w3 ⟨⟨u,rfl⟩,hf1,hf2⟩;have HE:=hid (Left.of_same HT2.out hf1 hf2);clear hf1 hf2;go_wp2_with fail
   go_ret2
   exact⟨rfl,HU.out _ _ HE.out⟩
end Go.Proofs.YtkjpgheealfedaaGreatDoor.lrl

namespace Go.Proofs.YtkjpgheealfedaaGreatDoor.shl
open Go.RowKit words lru sha lrl

structure Cc where
 g:Nat
 bo:Option Nat
 r:Nat
 L:List (ByteArray×Lst)
structure Fam (w:World) (B:Nat) (C:List Cc):Prop where
 lru:∀(i:Nat) (c:Cc),C[i]?=some c→Lru w B c.g c.bo c.r c.L
 ok:∀(i:Nat) (c:Cc),C[i]?=some c→Ok c.L c.r
 apart:∀(i j:Nat) (a b:Cc),C[i]?=some a→C[j]?=some b→i≠j→∀k,Its a.g a.bo k→¬Its b.g b.bo k
theorem Fam.nil (w:World) (B:Nat):Fam w B []:=⟨fun i c h=>by simp at h,fun i c h=>by simp at h,fun i j a b h=>by simp at h⟩
theorem Jfr {w:World} {B g r:Nat} {bo:Option Nat} {L:List (ByteArray×Lst)} (h:Lru w B g bo r L) {k:Nat} (hk:Its g bo k):B≤k∧k<w.heap.size:=by
 rcases hk with rfl |hk
 ·exact⟨h.lt.1,h.lt.2.1⟩
 ·exact⟨(h.lt.2.2 k hk.symm).1,(h.lt.2.2 k hk.symm).2.1⟩
theorem Fam.kept {S:TypeId→Prop} {B':Nat} {w w':World} {B:Nat} {C:List Cc} (h:Fam w B C) (hk:Kept S B' w w') (h1:¬S 225) (h2:¬S 270):Fam w' B C:=
 ⟨fun i c hc=>(h.lru i c hc).of_kept hk h1 h2,h.ok,h.apart⟩
theorem Fam.later {w w':World} {B:Nat} {C:List Cc} (h:Fam w B C) (hb:Below w.heap.size w w'):Fam w' B C:=h.kept (Kept.of_below hb (fun _=>False) 0) (fun hc=>hc) (fun hc=>hc)
theorem Fam.left {w w':World} {B i:Nat} {C:List Cc} {c:Cc} {L':List (ByteArray×Lst)} (h:Fam w B C) (hi:C[i]?=some c) (hl:lrl.Left w B c.g c.r c.bo L' w') (hok:Ok L' c.r):∃bo',Fam w' B (C.set i ⟨c.g,bo',c.r,L'⟩):=by
 obtain⟨bo',h1,h2⟩:=hl.ex;have hin:i<C.length:=(List.getElem?_eq_some_iff.1 hi).1;have hset:∀j x,(C.set i ⟨c.g,bo',c.r,L'⟩)[j]?=some x→(j=i∧x=⟨c.g,bo',c.r,L'⟩)∨(j≠i∧C[j]?=some x):=fun j x hx=>by
  rw [List.getElem?_set] at hx;by_cases e:i=j
  ·subst e
   rw [if_pos rfl,if_pos hin] at hx;exact .inl ⟨rfl,(Option.some.inj hx).symm⟩
  ·rw [if_neg e] at hx
   exact .inr ⟨fun h=>e h.symm,hx⟩
 have hfar:∀j x,C[j]?=some x→j≠i→∀k,Its c.g bo' k→¬Its x.g x.bo k:=fun j x hx hj k hk hk2=>by
  rcases hk with rfl |hk
  ·exact h.apart i j c x hi hx (fun e=>hj e.symm) _ (.inl rfl) hk2
  ·rcases h2 k hk.symm with hb |hb
   ·exact h.apart i j c x hi hx (fun e=>hj e.symm) k (.inr hb.symm) hk2
   ·have:=(Jfr (h.lru j x hx) hk2).2
    omega
 refine⟨bo',fun j x hx=>?_,fun j x hx=>?_,fun j j' a b ha hb hj k hk hk2=>?_⟩
 ·rcases hset j x hx with⟨_,rfl⟩ |⟨hj,hx⟩
  ·exact h1
  ·exact (h.lru j x hx).tn hl.tn fun k hk hk2=>h.apart i j c x hi hx (fun e=>hj e.symm) k hk2 hk
 ·rcases hset j x hx with⟨_,rfl⟩ |⟨hj,hx⟩
  ·exact hok
  ·exact h.ok j x hx
 ·rcases hset j a ha with⟨rfl,rfl⟩ |⟨hja,ha2⟩<;>rcases hset j' b hb with⟨rfl,rfl⟩ |⟨hjb,hb2⟩
  ·exact hj rfl
  ·exact hfar j' b hb2 hjb k hk hk2
  ·exact hfar j a ha2 hja k hk2 hk
  ·exact h.apart j j' a b ha2 hb2 hj k hk hk2
theorem Fam.left_kept {w w':World} {B i:Nat} {C:List Cc} {c:Cc} {L':List (ByteArray×Lst)} (h:Fam w B C) (hi:C[i]?=some c) (hl:lrl.Left w B c.g c.r c.bo L' w'):Kept LS B w w':=hl.kept (h.lru i c hi)
theorem Fam.join {w w':World} {B:Nat} {C D:List Cc} (h:Fam w B C) (hB:B≤w.heap.size) (hb:Below w.heap.size w w') (hd:Fam w' w.heap.size D):Fam w' B (C++D):=by
 have h':=h.later hb;have hat:∀(i:Nat) (c:Cc),(C++D)[i]?=some c→(i<C.length∧C[i]?=some c)∨(C.length≤i∧D[i - C.length]?=some c):=fun i c hc=>by
  rw [List.getElem?_append] at hc;split at hc
  ·exact .inl ⟨by assumption,hc⟩
  ·exact .inr ⟨by omega,hc⟩
 have hcd:∀(i j:Nat) (a b:Cc),C[i]?=some a→D[j]?=some b→∀k,Its a.g a.bo k→¬Its b.g b.bo k:=fun i j a b ha hb k hk hk2=>by
  have h1:=(Jfr (h.lru i a ha) hk).2;have h2:=(Jfr (hd.lru j b hb) hk2).1;omega
 refine⟨fun i c hc=>?_,fun i c hc=>?_,fun i j a b ha hb' hij k hk hk2=>?_⟩
 ·rcases hat i c hc with⟨_,hc⟩ |⟨_,hc⟩
  ·exact h'.lru i c hc
  ·obtain⟨h0,v,h1,h2,h3⟩:=hd.lru _ c hc
   exact⟨Nat.le_trans hB h0,v,h1,h2,Jdt h3 hB⟩
 ·rcases hat i c hc with⟨_,hc⟩ |⟨_,hc⟩
  ·exact h.ok i c hc
  ·exact hd.ok _ c hc
 ·rcases hat i a ha with⟨hi,ha⟩ |⟨hi,ha⟩<;>rcases hat j b hb' with⟨hj,hb'⟩ |⟨hj,hb'⟩
  ·exact h.apart i j a b ha hb' hij k hk hk2
  ·exact hcd i _ a b ha hb' k hk hk2
  ·exact hcd j _ b a hb' ha k hk2 hk
  ·exact hd.apart _ _ a b ha hb' (by omega) k hk hk2
theorem Fam.one {w:World} {B g r:Nat} {bo:Option Nat} {L:List (ByteArray×Lst)} (h:Lru w B g bo r L) (hok:Ok L r):Fam w B [⟨g,bo,r,L⟩]:=by
 have h1:∀(i:Nat) (c:Cc),([⟨g,bo,r,L⟩]:List Cc)[i]?=some c→i=0∧c=⟨g,bo,r,L⟩:=fun i c hc=>by
  rcases i with _ |i
  ·exact⟨rfl,by simpa using hc.symm⟩
  ·simp at hc
 refine⟨fun i c hc=>?_,fun i c hc=>?_,fun i j a b ha hb hij=>?_⟩
 ·obtain⟨_,rfl⟩:=h1 i c hc
  exact h
 ·obtain⟨_,rfl⟩:=h1 i c hc
  exact hok
 ·obtain⟨rfl,_⟩:=h1 i a ha
  obtain⟨rfl,_⟩:=h1 j b hb;exact absurd rfl hij

def Shd (w:World) (B h:Nat) (gs:List Nat):Prop:=B≤h∧∃v,w.heap[h]?=some (.cells #[v] 173 (0,0))∧w.ownsRow B 174 1 v gs.length (gs.map ptrC)
def SS (t:TypeId):Prop:=t=173∨t=174
theorem Shd.kept {S:TypeId→Prop} {B':Nat} {w w':World} {B h:Nat} {gs:List Nat} (hs:Shd w B h gs) (hk:Kept S B' w w') (h1:¬S 173) (h2:¬S 174):Shd w' B h gs:=by
 obtain⟨h0,v,hb,ho⟩:=hs;exact⟨h0,v,hk.blk hb h1,hk.own ho h2⟩
theorem Shd.later {w w':World} {B h:Nat} {gs:List Nat} (hs:Shd w B h gs) (hb:Below w.heap.size w w'):Shd w' B h gs:=hs.kept (Kept.of_below hb (fun _=>False) 0) (fun hc=>hc) (fun hc=>hc)
theorem Shd.mono {w:World} {B B' h:Nat} {gs:List Nat} (hs:Shd w B h gs) (hB:B'≤B):Shd w B' h gs:=by
 obtain⟨h0,v,hb,ho⟩:=hs;exact⟨Nat.le_trans hB h0,v,hb,Jdt ho hB⟩
theorem Jnu {w:World} {B c:Nat} {A:Option Addr} {gs:List Nat} (ho:w.ownsRow B 174 1 (.slice A gs.length c) gs.length (gs.map ptrC)) {i g:Nat} (hi:gs[i]?=some g):∃b,A=some ⟨b,0,none⟩∧b<w.heap.size∧w.cell? ⟨b,i,none⟩=some (ptrC g):=by
 obtain⟨b,c',h1,_,h2,h3⟩:=Jkt ho (j:=i) (u:=ptrC g) (by rw [List.getElem?_map,hi];rfl);injection h1 with h1;exact⟨b,h1,h2,h3⟩
theorem Shd.cells {w:World} {B h:Nat} {gs:List Nat} (hs:Shd w B h gs):∃A c,w.cell? ⟨h,0,none⟩=some (.slice A gs.length c)∧h<w.heap.size∧∀i g,gs[i]?=some g→∃b,A=some ⟨b,0,none⟩∧b<w.heap.size∧w.cell? ⟨b,i,none⟩=some (ptrC g):=by
 obtain⟨h0,v,hb,ho⟩:=hs;obtain⟨A,c,rfl,_⟩:=own_facts ho;exact⟨A,c,Jaa hb 0,lt_of_some hb,fun i g hi=>Jnu ho hi⟩
def news (gs:List Nat) (r:Nat):List Cc:=gs.map fun g=>⟨g,none,r,[]⟩
structure NewIn (w:World) (r:Nat) (gs:List Nat) (v:Value) (wr:World):Prop where
 blk:wr.heap[w.heap.size]?=some (.cells #[v] 173 (0,0))
 own:wr.ownsRow w.heap.size 174 1 v gs.length (gs.map ptrC)
 fam:Fam wr w.heap.size (news gs r)
 below:Below w.heap.size w wr
theorem NewIn.next {w wr w3 w4 w5:World} {r:Nat} {gs:List Nat} {v:Value} {b c:Nat} (h:NewIn w r gs v wr) (hr:1≤r) (hw3:w3=wr.alloc (.cells #[.int .i64 (r:Int),.slice none 0 0] 225)) (hb4:Below w3.heap.size w3 w4)
  (ho:w5.ownsRow w.heap.size 174 1 (.slice (some ⟨b,0,none⟩) (gs.length+1) c) (gs.length+1) (gs.map ptrC++[ptrC wr.heap.size])) (hg:w4.grownBy w5 v.ownBlock):
  NewIn w r (gs++[wr.heap.size]) (.slice (some ⟨b,0,none⟩) (gs.length+1) c) (w5.setCell ⟨w.heap.size,0,none⟩ (.slice (some ⟨b,0,none⟩) (gs.length+1) c)):=by
 have hB:=h.below.size;have hb3:Below wr.heap.size wr w3:=words.b1 hw3;have hb34:=hb3.trans (hb4.mono hb3.size);have ho4:=ownL h.own hb34;have hblk4:=(hb34.block _ (lt_of_some h.blk)).trans h.blk;have hk:Kept SS w.heap.size w4 w5:=(Kept.refl SS _ w4).grown hg ho4 (Nat.le_refl _) (.inr rfl);have hblk5:w5.heap[w.heap.size]?=some (.cells #[v] 173 (0,0)):=(hg.block _ (lt_of_some hblk4) (fun e=>Jay ho4 hblk4 (by decide) e.symm)).trans hblk4;have hk5:=hk.setCell (p:=⟨w.heap.size,0,none⟩) (Nat.le_refl _) ⟨_,_,_,hblk5,.inl rfl⟩ (.slice (some ⟨b,0,none⟩) (gs.length+1) c);have hnew:Fam w3 wr.heap.size [⟨wr.heap.size,none,r,[]⟩]:=Fam.one (by rw [hw3];exact Jjx wr wr.heap.size r (Nat.le_refl _)) (Ok.new hr);have hf3:=(h.fam.join hB hb3 hnew).later hb4;have hf5:=hf3.kept hk5 (by unfold SS;decide) (by unfold SS;decide);refine⟨Jhu hblk5 _,?_,?_,(h.below.trans (hb34.mono hB)).trans (hk5.below (Nat.le_trans hB (Nat.le_trans hb3.size hb4.size)))⟩
 ·rw [List.length_append,List.map_append]
  exact Jaq ho (Jay ho hblk5 (by decide)) _
 ·unfold news at hf5 ⊢
  rw [List.map_append];exact hf5
end Go.Proofs.YtkjpgheealfedaaGreatDoor.shl

namespace Go.Proofs.YtkjpgheealfedaaGreatDoor.shl
open Go.RowKit words lru sha lrl

theorem infoPtr:(Tryz.prog.info? 174).map (fun i=>(i.zero,i.size,i.bytes))=some (some (.pointer none),1,8):=by kernel_rfl
def NewOut (w:World) (n r:Nat) (e:Ending) (w':World):Prop:=
 e= .returned (.pointer (some ⟨w.heap.size,0,none⟩))∧∃gs:List Nat,gs.length=n∧Shd w' w.heap.size w.heap.size gs∧Fam w' w.heap.size (news gs r)∧Below w.heap.size w w'
theorem snew_any (n r:Nat) (many room:Int) (w:World) (hn:(n:Int)=min (max many 1) 256) (hr:(r:Int)=max room 1):
  Calls prog 71 #[.int .i64 many,.int .i64 room] w (NewOut w n r):=by
 obtain⟨i1,hi',hw0,hw1,hw2⟩:=Jap infoPtr;have hr1:1≤r:=by omega
 have hn256:n≤256:=by omega
 obtain⟨W1,hW1⟩:=words.nm (w.alloc (.cells #[.slice none 0 0] 173));have hb1:=words.b1 hW1;have HI:Hid (NewIn w r [] (.slice none 0 0) W1):=hid ⟨by rw [hW1];exact heap_alloc_new w _,World.ownsRow_nil _ _ _ _,Fam.nil _ _,hb1⟩;have hmn:min (max many 1) 256=(n:Int):=hn.symm;have HR:=hid hr;have HW1:=hid hW1;clear hb1 hW1 hn hr;go_enter func71,ntmps71
 go_upto_region 2 with fail
 rw [←HW1.out];go_wp2_with fail
 go_loopw [11] (fun v wr=>∃(k:Nat) (gs:List Nat) (vs:Value),v= .int .i64 (k:Int)∧k≤n∧Hid (NewIn w r gs vs wr)∧gs.length=k) (fun v _=>n - (intOf v).toNat)
 case atStart=>exact⟨0,[],_,rfl,Nat.zero_le _,HI,rfl⟩
 case round=>
  clear HI;obtain⟨k,gs,vs,rfl,hk,HN,hgk⟩:=hrel;have k0:(0:Int)≤(k:Int):=by omega
  by_cases hkn:k<n
  ·have k1:(k:Int)<(n:Int):=by omega
   obtain⟨A,c,rfl,_,_,_⟩:=own_facts HN.out.own;have cg:wr.cell? ⟨w.heap.size,0,none⟩=some (.slice A gs.length c):=Jaa HN.out.blk 0;obtain⟨w3,hw3⟩:=words.nm (wr.drew.alloc (.cells #[.int .i64 (r:Int),.slice none 0 0] 225));have hb3:Below wr.heap.size wr w3:=by rw [hw3];exact (Below.refl _ _).drew.alloc (Nat.le_refl _) _
   have hz3:w3.heap.size=wr.heap.size+1:=by rw [hw3];simp
   have HC:Hid (Calls prog 104 #[.int .i64 room] wr.drew fun e w'=>e= .returned (.pointer (some ⟨wr.heap.size,0,none⟩))∧w3=w'):=hid ((new_any r room wr.drew HR.out).mono fun e w' ⟨h1,h2⟩=>⟨h1,by rw [h2,hw3]⟩);have hblk3:=(hb3.block _ (lt_of_some HN.out.blk)).trans HN.out.blk;have cg3:w3.cell? ⟨w.heap.size,0,none⟩=some (.slice A gs.length c):=Jaa hblk3 0;obtain⟨w4,hw4⟩:=words.nm (w3.alloc (.cells #[ptrC wr.heap.size] 174));have hb4:Below w3.heap.size w3 w4:=words.b1 hw4;have hb34:=hb3.trans (hb4.mono hb3.size);have HO4:=hid (ownL HN.out.own hb34);have hblk4:=(hb34.block _ (lt_of_some HN.out.blk)).trans HN.out.blk;have HBLK4:=hid hblk4;have HN4:Hid (∀(m:Nat) (u:Value),([ptrC wr.heap.size]:List Value)[m]?=some u→w4.cell? ((⟨w3.heap.size,0,none⟩:Addr).add m)=some u):=hid fun m u hm=>by rw [hw4,Jar];simpa using hm
   have cgA:∀o:Obj,(w3.alloc o).cell? ⟨w.heap.size,0,none⟩=some (.slice A gs.length c):=fun o=>(World.cell?_of_block (Below.heap_alloc w3 o _ (lt_of_some hblk3))).trans cg3;have HZ4:Hid (w.heap.size≤w4.heap.size):=hid (Nat.le_trans HN.out.below.size hb34.size);have HNX:=hid (fun (w5:World) (b c':Nat) (ho:w5.ownsRow w.heap.size 174 1 (.slice (some ⟨b,0,none⟩) (gs.length+1) c') (gs.length+1) (gs.map ptrC++[ptrC wr.heap.size])) (hg:w4.grownBy w5 (Value.slice A gs.length c).ownBlock)=>NewIn.next (wr:=wr.drew) (w3:=w3) (w4:=w4) ⟨HN.out.blk,HN.out.own,⟨HN.out.fam.lru,HN.out.fam.ok,HN.out.fam.apart⟩,⟨HN.out.below.os,HN.out.below.tape,HN.out.below.output,HN.out.below.size,HN.out.below.block⟩⟩ hr1 hw3 hb4 ho hg);have HW4:=hid hw4;unfold ptrC at hw4;have HW4':=hid hw4.symm;have HZ3:=hid hz3;have HGK:=hid hgk;have hg256:gs.length≤256:=by omega
   clear hw3 hb3 hz3 hblk3 hw4 hb4 hb34 hblk4 HN hgk;go_wp2_with fail
   go_region_law (first
     |(go_simp;go_at_call 104;refine HC.out.mono ?_;rintro e wx ⟨rfl,rfl⟩)
     |(rw [HW4'.out];refine step_append_lies _ (by rfl) _ _ _ (by rfl) w.heap.size 174 i1 _ 1 8 underlying171 hi' hw0 hw1 hw2 rfl (by omega) (.slice A gs.length c) gs.length (gs.map ptrC) (by rfl) HO4.out
           ⟨w3.heap.size,0,none⟩ 1 1 [ptrC wr.heap.size] (by rfl) (by rfl) HN4.out (by simp [Value.oneCell',ptrC]) (by omega) (by simp only [maxLen];omega) (by omega) HZ4.out w4.heap.size (by rfl) ?_;intro b c' w5 hown5 hgrow5 hat5 hlt5;have hg5:=(hgrow5.block _ (lt_of_some HBLK4.out) (fun e=>Jay HO4.out HBLK4.out (by decide) e.symm)).trans HBLK4.out;have hc5:=Jaa hg5 0;have hf5:=Jab hg5 0))
   all_goals
    have HNN:=hid (HNX.out w5 b c' hown5 hgrow5);clear hown5 hgrow5 hat5 hlt5 hg5;go_wp2_with fail
    go_roundw
    case rel=>exact⟨k+1,gs++[wr.heap.size],_,by go_num,by omega,HNN,by rw [List.length_append,HGK.out];rfl⟩
    case measure=>simp [intOf];omega
  ·obtain rfl:k=n:=by omega
   have HE:Hid (NewOut w k r (.returned (.pointer (some ⟨w.heap.size,0,none⟩))) wr):=hid ⟨rfl,gs,hgk,⟨Nat.le_refl _,_,HN.out.blk,HN.out.own⟩,HN.out.fam,HN.out.below⟩;clear HN hgk;go_wp2_with fail
   go_ret
   exact HE.out
theorem of_any (B h:Nat) (gs:List Nat) (k:ByteArray) (w:World) (hs:Shd w B h gs) (h1:0<gs.length) (h2:gs.length≤256) (hk:k.size≤9223372036854775807):
  Calls prog 45 #[.pointer (some ⟨h,0,none⟩),.string k] w fun e w'=>e= .returned (.int .i64 (ofF k gs.length:Int))∧∃n,w'=w.drewN n:=by
 obtain⟨A,c,c0,_,_⟩:=hs.cells;obtain⟨s,hs1⟩:=words.nm (sumF k.data.toList);have hlt:=Jj9 k.data.toList;have HC:=hid (fun w=>Jok k w hk);unfold ofF;rw [←hs1] at hlt HC ⊢;obtain⟨n,hn⟩:=words.nm (gs.length);rw [←hn] at c0 h1 h2 ⊢;have w1:IntKind.u32.wrap (n:Int)=(n:Int):=by rw [IntKind.wrap_u32'];omega
 have z1:(0:Int)≤(s:Int):=by omega
 have z2:(0:Int)<(n:Int):=by omega
 have z3:¬((n:Int)=0):=by omega
 have z4:¬(n=0):=by omega
 have hmm:(s:Int) % (n:Int)=((s % n:Nat):Int):=by rw [Int.natCast_emod]
 have hml:s % n<n:=Nat.mod_lt _ h1;have w2:IntKind.i64.wrap ((s:Int) % (n:Int))=(s:Int) % (n:Int):=IntWalk.i64_in _ (by omega);have HMM:=hid hmm;clear hs hs1 hn hmm hml;go_enter func45,ntmps45
 go_wp2_with fail
 go_quiet ((go_at_call 85;exact Calls.quiet_of_same ((HC.out _).mono fun e w' ⟨h1,h2⟩=>⟨h1,h2.symm⟩)))
 go_wp2_with fail
 go_ret
 exact⟨by rw [←HMM.out];rfl,_,rfl⟩

theorem Jb3 {w w2 w':World} {B g r:Nat} {bo:Option Nat} {L:List (ByteArray×Lst)} (h2:∃n,w2=w.drew.drewN n) (h:lrl.Left w2 B g r bo L w'):lrl.Left w B g r bo L w':=by
 obtain⟨n,rfl⟩:=h2;exact⟨h.ex,⟨h.tn.os,h.tn.tape,h.tn.output,h.tn.size,h.tn.block⟩⟩
theorem Shd.drew {w:World} {B h:Nat} {gs:List Nat} (hs:Shd w B h gs):Shd w.drew B h gs:=hs
theorem Jbj (B h g:Nat) (gs:List Nat) (bo:Option Nat) (r:Nat) (L:List (ByteArray×Lst)) (k:ByteArray) (w:World) (hs:Shd w B h gs) (h1:0<gs.length) (h2:gs.length≤256) (hk:k.size≤9223372036854775807)
  (hg:gs[ofF k gs.length]?=some g) (hl:Lru w B g bo r L) (hok:Ok L r) (hlen:L.length≤1000):
  Calls prog 110 #[.pointer (some ⟨h,0,none⟩),.string k] w (lrl.Got w B g r bo L k):=by
 obtain⟨i,hi⟩:=words.nm (ofF k gs.length);rw [←hi] at hg;obtain⟨W0,hW0⟩:=words.nm (w.alloc (.cells #[.int .i64 0,.slice none 0 0] 122));have hb0:=words.b1 hW0;have hz0:W0.heap[w.heap.size]?=some (.cells #[.int .i64 0,.slice none 0 0] 122 (0,0)):=by rw [hW0];exact heap_alloc_new w _
 have hs0:Shd W0 B h gs:=hs.later hb0;have hl0:Lru W0 B g bo r L:=hl.quiet (Tn.of_below hb0 _);have hq0:w.heap.size<W0.heap.size:=lt_of_some hz0;obtain⟨A,c,c0,_,hat⟩:=hs0.cells;obtain⟨b,hA,_,p0⟩:=hat i g hg;subst hA;unfold ptrC at p0;have hil:i<gs.length:=(List.getElem?_eq_some_iff.1 hg).1;have i0:(0:Int)≤(i:Int):=by omega
 have i1:(i:Int)<(gs.length:Int):=by omega
 have HOF:Hid (Calls prog 45 #[.pointer (some ⟨h,0,none⟩),.string k] W0.drew fun e w'=>e= .returned (.int .i64 (i:Int))∧∃n,w'=W0.drew.drewN n):=hid (by rw [hi];exact of_any B h gs k W0.drew hs0.drew h1 h2 hk);have HG:=hid (fun (w2:World) (hw:∃n,w2=W0.drew.drewN n)=>(Jjn B g bo r L k w2 (hl0.quiet (Tn.of_below (Jaj hw) _)) hok hlen).mono fun e w' hgot=>(⟨hgot.1,Jb3 hw hgot.2⟩:lrl.Got W0 B g r bo L k e w'));have HC0:=hid c0;have HP0:=hid p0;have HLT:=hid (And.intro (World.block_lt_of_cell? W0 _ c0) (World.block_lt_of_cell? W0 _ p0));have HB0:=hid hb0;have HZB:Hid (∀(w3:World) (L':List (ByteArray×Lst)),lrl.Left W0 B g r bo L' w3→w3.heap[w.heap.size]?=some (.cells #[.int .i64 0,.slice none 0 0] 122 (0,0))):=hid fun w3 L' hx=>(hx.tn.block _ hq0 (fun hc=>by
   rcases hc with hc |hc
   ·have:=hl.lt.2.1;omega
   ·have:=hl.lt.2.2 _ hc.symm;omega)).trans hz0
 have HFIN:Hid (∀(w3 w4:World) (L':List (ByteArray×Lst)),lrl.Left W0 B g r bo L' w3→Tn (fun k=>k=w.heap.size) w3 w4→lrl.Left w B g r bo L' w4):=hid fun w3 w4 L' h3 h4=>h3.over hb0 hl (Nat.le_refl _) hq0 h4;have HW0:=hid hW0;clear hs hg hl hok hat hi hb0 hz0 hs0 hl0 hW0 hq0;go_enter func110,ntmps110
 go_upto_region 1 with fail
 rw [←HW0.out];go_region_law (first
   |(go_simp;go_at_call 45;refine HOF.out.mono ?_;rintro e w2 ⟨rfl,hw2⟩;have HG2:=hid (HG.out w2 hw2);have e0:=((Jaj hw2).cell (p:=⟨h,0,none⟩) HLT.out.1).trans HC0.out;have e1:=((Jaj hw2).cell (p:=⟨b,i,none⟩) HLT.out.2).trans HP0.out;have HW2:=hid hw2;clear hw2)
   |(go_simp;go_at_call 133;refine HG2.out.mono ?_;rintro e w3 ⟨rfl,h3⟩;have hzb:=HZB.out _ _ h3;have z0:=Jaa hzb 0;have fz0:=Jab hzb 0;have z1:=Jaa hzb 1;have fz1:=Jab hzb 1;have HE:=hid h3;have HZ3:=hid hzb;clear h3 hzb))
 all_goals
  obtain⟨W9,hW9⟩:=words.nm (((w3.setCell ⟨w.heap.size,0,none⟩ (.int .i64 (gotI L k).ep)).setCell ⟨w.heap.size,1,none⟩ (.slice (gotI L k).a (gotI L k).n (gotI L k).c)));have h9:W9=setsV w3 w.heap.size 0 [.int .i64 (gotI L k).ep,.slice (gotI L k).a (gotI L k).n (gotI L k).c]:=hW9;have hbk9:W9.heap[w.heap.size]?=some (.cells #[.int .i64 (gotI L k).ep,.slice (gotI L k).a (gotI L k).n (gotI L k).c] 122 (0,0)):=by rw [h9];exact Jak HZ3.out rfl
  have hE9:lrl.Left w B g r bo (getL L k) W9:=HFIN.out _ _ _ HE.out (by rw [h9];exact Jan (S:=fun k=>k=w.heap.size) _ (.inr rfl) _ _ _ (Tn.refl _ _));clear h9
  first |rw [←hW9] |skip
  have HE9:=hid hE9;have y0:=Jaa hbk9 0;have y1:=Jaa hbk9 1;clear hE9 hbk9 hW9;go_wp2_with fail
  exact bodyPost_ret (v:= .tuple #[.agg #[.int .i64 (gotI L k).ep,.slice (gotI L k).a (gotI L k).n (gotI L k).c],.bool (gotB L k)]) (by simp [results,results110,go_sem,y0,y1]) rfl ⟨rfl,HE9.out⟩
theorem Jhm (B h g:Nat) (gs:List Nat) (bo:Option Nat) (r:Nat) (L:List (ByteArray×Lst)) (k:ByteArray) (v:Lst) (w:World) (hs:Shd w B h gs) (h1:0<gs.length) (h2:gs.length≤256) (hk:k.size≤9223372036854775807)
  (hg:gs[ofF k gs.length]?=some g) (hl:Lru w B g bo r L) (hok:Ok L r) (hlen:L.length≤900) (hB:B≤w.heap.size):
  Calls prog 112 #[.pointer (some ⟨h,0,none⟩),.string k,.agg #[.int .i64 v.ep,.slice v.a v.n v.c]] w (lrl.PutIn w B g r bo L k v):=by
 obtain⟨i,hi⟩:=words.nm (ofF k gs.length);rw [←hi] at hg;obtain⟨W0,hW0⟩:=words.nm (w.alloc (.cells #[.int .i64 v.ep,.slice v.a v.n v.c] 122));have hb0:=words.b1 hW0;have hz0:W0.heap[w.heap.size]?=some (.cells #[.int .i64 v.ep,.slice v.a v.n v.c] 122 (0,0)):=by rw [hW0];exact heap_alloc_new w _
 have hs0:Shd W0 B h gs:=hs.later hb0;have hl0:Lru W0 B g bo r L:=hl.quiet (Tn.of_below hb0 _);have hB0:B≤W0.heap.size:=Nat.le_trans hB hb0.size;have HU:Hid (∀(L':List (ByteArray×Lst)) (w3:World),lrl.Left W0 B g r bo L' w3→lrl.Left w B g r bo L' w3):=hid fun L' w3 hx=>hx.under hb0;have v0:=Jaa hz0 0;have v1:=Jaa hz0 1;have HV:Hid (∀w2:World,(∃n,w2=W0.drew.drewN n)→w2.cell? ⟨w.heap.size,0,none⟩=some (.int .i64 v.ep)∧w2.cell? ⟨w.heap.size,1,none⟩=some (.slice v.a v.n v.c)):=hid fun w2 hw=>by
  have hh:=((Jaj hw).block _ (lt_of_some hz0)).trans hz0;exact⟨Jaa hh 0,Jaa hh 1⟩
 have HW0:=hid hW0;obtain⟨A,c,c0,_,hat⟩:=hs0.cells;obtain⟨b,hA,_,p0⟩:=hat i g hg;subst hA;unfold ptrC at p0;have hil:i<gs.length:=(List.getElem?_eq_some_iff.1 hg).1;have i0:(0:Int)≤(i:Int):=by omega
 have i1:(i:Int)<(gs.length:Int):=by omega
 have HOF:Hid (Calls prog 45 #[.pointer (some ⟨h,0,none⟩),.string k] W0.drew fun e w'=>e= .returned (.int .i64 (i:Int))∧∃n,w'=W0.drew.drewN n):=hid (by rw [hi];exact of_any B h gs k W0.drew hs0.drew h1 h2 hk);have HG:=hid (fun (w2:World) (hw:∃n,w2=W0.drew.drewN n)=>(Jeg B g bo r L k v w2 (hl0.quiet (Tn.of_below (Jaj hw) _)) hok hlen (Nat.le_trans hB0 (Jaj hw).size)).mono fun e w' hgot=>(⟨hgot.1,Jb3 hw hgot.2⟩:lrl.PutIn W0 B g r bo L k v e w'));have HC0:=hid c0;have HP0:=hid p0;have HLT:=hid (And.intro (World.block_lt_of_cell? W0 _ c0) (World.block_lt_of_cell? W0 _ p0));clear hs hg hl hok hat hi hb0 hz0 hs0 hl0 hB0 hW0;go_enter func112,ntmps112
 go_upto_region 1 with fail
 rw [←HW0.out];go_region_law (first
   |(go_simp;go_at_call 45;refine HOF.out.mono ?_;rintro e w2 ⟨rfl,hw2⟩;have HG2:=hid (HG.out w2 hw2);have e0:=((Jaj hw2).cell (p:=⟨h,0,none⟩) HLT.out.1).trans HC0.out;have e1:=((Jaj hw2).cell (p:=⟨b,i,none⟩) HLT.out.2).trans HP0.out;obtain⟨u0,u1⟩:=HV.out w2 hw2;have HW2:=hid hw2;clear hw2)
   |(go_simp;go_at_call 134;refine HG2.out.mono ?_;rintro e w3 ⟨rfl,h3⟩;have HE:=hid h3;clear h3))
 all_goals
  go_wp2_with fail
  go_ret2
  exact⟨rfl,HU.out _ _ HE.out⟩
theorem Jcx (B h g i:Nat) (gs:List Nat) (bo:Option Nat) (r:Nat) (L:List (ByteArray×Lst)) (w:World) (hs:Shd w B h gs) (hg:gs[i]?=some g) (hl:Lru w B g bo r L):
  Calls prog 207 #[.pointer (some ⟨h,0,none⟩),.int .i64 (i:Int)] w fun e w'=>e= .returned (.int .i64 (L.length:Int))∧w=w':=by
 obtain⟨A,c,c0,_,hat⟩:=hs.cells;obtain⟨b,hA,_,p0⟩:=hat i g hg;subst hA;unfold ptrC at p0;have hil:i<gs.length:=(List.getElem?_eq_some_iff.1 hg).1;have i0:(0:Int)≤(i:Int):=by omega
 have i2:¬(i:Int)<0:=by omega
 have i1:(i:Int)<(gs.length:Int):=by omega
 have i3:¬(gs.length:Int)≤(i:Int):=by omega
 have i4:¬gs.length≤i:=by omega
 have HC:=hid (Jgg B g bo r L w hl);clear hs hg hl hat;go_enter func207,ntmps207
 go_wp2_with fail
 refine HC.out.mono ?_;rintro e w2 ⟨rfl,rfl⟩;go_wp2_with fail
 go_ret
 exact⟨rfl,rfl⟩
def Held (w:World) (B:Nat) (gs ns:List Nat):Prop:=gs.length=ns.length∧∀(i g:Nat),gs[i]?=some g→∃bo r L,Lru w B g bo r L∧ns[i]?=some L.length
theorem most_any (B h:Nat) (gs ns:List Nat) (w:World) (hs:Shd w B h gs) (h2:gs.length≤256) (hh:Held w B gs ns):
  Calls prog 43 #[.pointer (some ⟨h,0,none⟩)] w fun e w'=>e= .returned (.int .i64 (mostF ns:Int))∧w=w':=by
 obtain⟨A,c,c0,_,hat⟩:=hs.cells;have HA:=hid hat;have HH:=hid hh;clear hs hat hh;go_enter func43,ntmps43
 go_wp2_with fail
 go_loop [11,3] (fun v v3=>∃k:Nat,k≤gs.length∧v= .int .i64 (k:Int)∧v3= .int .i64 (mostF (ns.take k):Int)) (fun v _=>gs.length - (intOf v).toNat)
 case atStart=>exact⟨0,Nat.zero_le _,rfl,rfl⟩
 case round=>
  obtain⟨k,hk,rfl,rfl⟩:=hrel;obtain⟨m,hm⟩:=words.nm (mostF (ns.take k));rw [←hm];have k0:(0:Int)≤(k:Int):=by omega
  by_cases hkl:k<gs.length
  ·have k1:(k:Int)<(gs.length:Int):=by omega
   obtain⟨g,hg⟩:∃g,gs[k]?=some g:=⟨_,List.getElem?_eq_getElem hkl⟩
   obtain⟨b,hA,_,p0⟩:=HA.out k g hg;subst hA;unfold ptrC at p0;obtain⟨bo,r,L,hl,hn⟩:=HH.out.2 k g hg;have HC:=hid (Jgg B g bo r L w hl);have HN:Hid (mostF (ns.take (k+1))=max m L.length):=hid (by
     obtain⟨hkn,hx⟩:=List.getElem?_eq_some_iff.1 hn;rw [List.take_succ_eq_append_getElem hkn,hx,Jgt,hm])
   have hmx:max (m:Int) (L.length:Int)=((max m L.length:Nat):Int):=by omega
   clear hg hl hn hm;go_wp2_with fail
   refine HC.out.mono ?_;rintro e w2 ⟨rfl,rfl⟩;go_wp2_with fail
   go_round
   case rel=>exact⟨k+1,by omega,by go_num,by rw [HN.out]⟩
   case measure=>simp [intOf];omega
  ·obtain rfl:k=gs.length:=by omega
   have HF:Hid (m=mostF ns):=hid (by rw [hm,HH.out.1,List.take_length]);clear hm;go_wp2_with fail
   go_ret
   exact⟨by rw [HF.out];rfl,rfl⟩
end Go.Proofs.YtkjpgheealfedaaGreatDoor.shl
