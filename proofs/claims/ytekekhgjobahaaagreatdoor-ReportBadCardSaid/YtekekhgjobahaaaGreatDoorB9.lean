import Derived.Test.YtekekhgjobahaaaGreatDoorA1
set_option maxHeartbeats 3200000
set_option maxRecDepth 100000
open Go.Lib (hid)
open Go.Proofs.Tryz
namespace Go.Proofs.YtekekhgjobahaaaGreatDoor.lrd
open Go.RowKit words lru

structure Ent where
 ep:Int
 th:Bool
 kd:Int
 lv:Int
 nd:Int
 da:Option Addr
 dn:Nat
 dc:Nat
 tg:ByteArray
def e0:Ent:=⟨0,false,0,0,0,none,0,0,⟨#[]⟩⟩
def pC (p:ByteArray×Ent):List Value:=[.string p.1,.int .i64 p.2.ep,.bool p.2.th,.int .i64 p.2.kd,.int .i64 p.2.lv,.int .i64 p.2.nd,.slice p.2.da p.2.dn p.2.dc,.string p.2.tg]
def Lru (w:World) (B g:Nat) (bo:Option Nat) (r:Nat) (L:List (ByteArray×Ent)):Prop:=
 B≤g∧∃v,v.ownBlock=bo∧w.heap[g]?=some (.cells #[.int .i64 (r:Int),v] 301 (0,0))∧w.ownsRow B 447 8 v L.length (L.flatMap pC)
def Its (g:Nat) (bo:Option Nat) (k:Nat):Prop:=k=g∨some k=bo
def LS (t:TypeId):Prop:=t=301∨t=447

theorem Ji7 (p:ByteArray×Ent):∀u∈pC p,u.oneCell'=true:=fun u hu=>by
 simp only [pC,List.mem_cons,List.mem_nil_iff,or_false] at hu;rcases hu with rfl |rfl |rfl |rfl |rfl |rfl |rfl |rfl<;>rfl
theorem Jmc (L:List (ByteArray×Ent)):∀u∈L.flatMap pC,u.oneCell'=true:=fun u hu=>by
 obtain⟨p,_,hp⟩:=List.mem_flatMap.1 hu;exact Ji7 p u hp
theorem Jb1 (L:List (ByteArray×Ent)):(L.flatMap pC).length=L.length*8:=by
 induction L with
 |nil=>rfl
 |cons p L ih=>rw [List.flatMap_cons,List.length_append,ih,List.length_cons];simp [pC];omega
theorem Jr5:∀{L:List (ByteArray×Ent)} {i:Nat} {p:ByteArray×Ent},L[i]?=some p→∀j,j<8→(L.flatMap pC)[i*8+j]?=(pC p)[j]?
 |[],i,p,h,_,_=>by simp at h
 |x::L,i,p,h,j,hj=>by
  rw [List.flatMap_cons];rcases i with _ |i
  ·obtain rfl:x=p:=by simpa using h
   rw [List.getElem?_append_left (by simp [pC];omega),Nat.zero_mul,Nat.zero_add]
  ·rw [List.getElem?_append_right (by simp [pC];omega),←Jr5 (L:=L) (i:=i) (by simpa using h) j hj]
   congr 1;simp [pC];omega
theorem Jlh (L:List (ByteArray×Ent)) (m:Nat):(L.flatMap pC).take (m*8)=(L.take m).flatMap pC:=by
 induction L generalizing m with
 |nil=>simp
 |cons p L ih=>
  rcases m with _ |m
  ·simp
  ·rw [List.flatMap_cons,List.take_succ_cons,List.flatMap_cons,←ih m,List.take_append,show (pC p).length=8 from rfl,show (m+1)*8 - 8=m*8 by omega,List.take_of_length_le (by simp [pC];omega)]
theorem Jld (L:List (ByteArray×Ent)) (m:Nat):(L.flatMap pC).drop (m*8)=(L.drop m).flatMap pC:=by
 induction L generalizing m with
 |nil=>simp
 |cons p L ih=>
  rcases m with _ |m
  ·simp
  ·rw [List.flatMap_cons,List.drop_succ_cons,←ih m,List.drop_append,show (pC p).length=8 from rfl,show (m+1)*8 - 8=m*8 by omega,List.drop_of_length_le (by simp [pC];omega),List.nil_append]

structure Cells (w:World) (g r:Nat) (L:List (ByteArray×Ent)) (A:Option Addr) (c:Nat):Prop where
 c0:w.cell? ⟨g,0,none⟩=some (.int .i64 (r:Int))
 c1:w.cell? ⟨g,1,none⟩=some (.slice A L.length c)
 le:L.length≤c
 max:c≤maxLen
 at_:∀i p,L[i]?=some p→∃b,A=some ⟨b,0,none⟩∧b<w.heap.size∧w.cell? ⟨b,i*8,none⟩=some (.string p.1)∧w.cell? ⟨b,i*8+1,none⟩=some (.int .i64 p.2.ep)∧w.cell? ⟨b,i*8+2,none⟩=some (.bool p.2.th)∧w.cell? ⟨b,i*8+3,none⟩=some (.int .i64 p.2.kd)∧w.cell? ⟨b,i*8+4,none⟩=some (.int .i64 p.2.lv)∧w.cell? ⟨b,i*8+5,none⟩=some (.int .i64 p.2.nd)∧w.cell? ⟨b,i*8+6,none⟩=some (.slice p.2.da p.2.dn p.2.dc)∧w.cell? ⟨b,i*8+7,none⟩=some (.string p.2.tg)
theorem Lru.cells {w:World} {B g r:Nat} {bo:Option Nat} {L:List (ByteArray×Ent)} (h:Lru w B g bo r L):∃A c,Cells w g r L A c:=by
 obtain⟨_,v,_,hb,ho⟩:=h;rcases ho.2 with⟨rfl,h0⟩ |⟨b,c,cur,rfl,_,hh,h1,h2,h3,h4⟩
 ·have hL:L=[]:=List.eq_nil_of_length_eq_zero h0
  subst hL;exact⟨none,0,Jaa hb 0,Jaa hb 1,Nat.le_refl _,Nat.zero_le _,fun i p hp=>by simp at hp⟩
 ·refine⟨some ⟨b,0,none⟩,c,Jaa hb 0,Jaa hb 1,h1,h2,fun i p hp=>?_⟩
  have hi:=(List.getElem?_eq_some_iff.1 hp).1;have hcell:∀j,j<8→w.cell? ⟨b,i*8+j,none⟩=(pC p)[j]?:=fun j hj=>by
   rw [Jaa hh,←Array.getElem?_toList,←Jr5 hp j hj,←h4,List.getElem?_take,if_pos (by omega)]
  exact⟨b,rfl,lt_of_some hh,hcell 0 (by omega),hcell 1 (by omega),hcell 2 (by omega),hcell 3 (by omega),hcell 4 (by omega),hcell 5 (by omega),hcell 6 (by omega),hcell 7 (by omega)⟩
theorem Lru.row {w:World} {B g r:Nat} {bo:Option Nat} {L:List (ByteArray×Ent)} (h:Lru w B g bo r L) (hL:0<L.length):
  ∃b c cur,bo=some b∧w.heap[g]?=some (.cells #[.int .i64 (r:Int),.slice (some ⟨b,0,none⟩) L.length c] 301 (0,0))∧w.heap[b]?=some (.cells cur 447 (0,0))∧B≤b∧L.length≤c∧c≤maxLen∧cur.size=c*8∧cur.toList.take (L.length*8)=L.flatMap pC:=by
 obtain⟨_,v,rfl,hb,ho⟩:=h;rcases ho.2 with⟨rfl,h0⟩ |⟨b,c,cur,rfl,h5,hh,h1,h2,h3,h4⟩
 ·omega
 ·exact⟨b,c,cur,rfl,hb,hh,h5,h1,h2,h3,h4⟩
theorem Lru.lt {w:World} {B g r:Nat} {bo:Option Nat} {L:List (ByteArray×Ent)} (h:Lru w B g bo r L):B≤g∧g<w.heap.size∧∀b,bo=some b→B≤b∧b<w.heap.size∧b≠g:=by
 obtain⟨h0,v,rfl,hb,ho⟩:=h;refine⟨h0,lt_of_some hb,fun b hbo=>?_⟩;obtain⟨h1,h2⟩:=ho.lt b hbo;exact⟨h1,h2,fun e=>Jap ho hb (by decide) (e▸hbo)⟩
theorem Lru.types {w:World} {B g r:Nat} {bo:Option Nat} {L:List (ByteArray×Ent)} (h:Lru w B g bo r L):∀k,Its g bo k→B≤k∧∃cs t f,w.heap[k]?=some (.cells cs t f)∧LS t:=fun k hk=>by
 obtain⟨h0,v,rfl,hb,ho⟩:=h;rcases hk with rfl |hk
 ·exact⟨h0,_,_,_,hb,.inl rfl⟩
 ·rcases ho.2 with⟨rfl,_⟩ |⟨b,c,cur,rfl,h5,hh,_⟩
  ·simp [Value.ownBlock] at hk
  ·have:k=b:=by simpa [Value.ownBlock] using hk
   subst this;exact⟨h5,_,_,_,hh,.inr rfl⟩
theorem Lru.tn {S:Nat→Prop} {w w':World} {B g r:Nat} {bo:Option Nat} {L:List (ByteArray×Ent)} (h:Lru w B g bo r L) (ht:Tn S w w') (hS:∀k,Its g bo k→¬S k):Lru w' B g bo r L:=by
 obtain⟨h0,v,rfl,hb,ho⟩:=h;exact⟨h0,v,rfl,(ht.block g (lt_of_some hb) (hS g (.inl rfl))).trans hb,ht.own ho fun k hk=>hS k (.inr hk.symm)⟩
theorem Lru.quiet {w w':World} {B g r:Nat} {bo:Option Nat} {L:List (ByteArray×Ent)} (h:Lru w B g bo r L) (ht:Tn (fun _=>False) w w'):Lru w' B g bo r L:=h.tn ht fun _ _ hc=>hc
theorem Lru.of_kept {S:TypeId→Prop} {B':Nat} {w w':World} {B g r:Nat} {bo:Option Nat} {L:List (ByteArray×Ent)} (h:Lru w B g bo r L) (hk:Kept S B' w w') (h1:¬S 301) (h2:¬S 447):Lru w' B g bo r L:=by
 obtain⟨h0,v,rfl,hb,ho⟩:=h;exact⟨h0,v,rfl,hk.blk hb h1,hk.own ho h2⟩
theorem Lru.drewn {w:World} {B g r:Nat} {bo:Option Nat} {L:List (ByteArray×Ent)} (h:Lru w B g bo r L):Lru w.drew B g bo r L:=h
theorem Jll {w w':World} {B g r:Nat} {bo:Option Nat} {L:List (ByteArray×Ent)} (ht:Tn (Its g bo) w w') (h:Lru w B g bo r L):Kept LS B w w':=ht.kept h.types

structure Left (w:World) (B g r:Nat) (bo:Option Nat) (L:List (ByteArray×Ent)) (w':World):Prop where
 ex:∃bo',Lru w' B g bo' r L∧∀b,bo'=some b→bo=some b∨w.heap.size≤b
 tn:Tn (Its g bo) w w'
theorem Left.kept {w w':World} {B g r:Nat} {bo:Option Nat} {L L':List (ByteArray×Ent)} (h:Left w B g r bo L' w') (hl:Lru w B g bo r L):Kept LS B w w':=Jll h.tn hl

theorem takeW {l:List Value} (h:l.length=8):∃a0 a1 a2 a3 a4 a5 a6 a7,l=[a0,a1,a2,a3,a4,a5,a6,a7]:=by
 match l,h with
 |[a0,a1,a2,a3,a4,a5,a6,a7],_=>exact⟨a0,a1,a2,a3,a4,a5,a6,a7,rfl⟩
theorem Jdm {cur:List Value} {L:List (ByteArray×Ent)} {i:Nat} (p:ByteArray×Ent) (hi:i<L.length) (hc:cur.take (L.length*8)=L.flatMap pC):
  ((((((((((cur.take 8++(L.take i).flatMap pC++cur.drop (8+((L.take i).flatMap pC).length)).set 0 (.string p.1)).set 1 (.int .i64 p.2.ep)).set 2 (.bool p.2.th)).set 3 (.int .i64 p.2.kd)).set 4 (.int .i64 p.2.lv)).set 5 (.int .i64 p.2.nd)).set 6 (.slice p.2.da p.2.dn p.2.dc)).set 7 (.string p.2.tg)).take (L.length*8))=(p::(L.take i++L.drop (i+1))).flatMap pC:=by
 have hlen:L.length*8≤cur.length:=by
  have:=congrArg List.length hc;rw [Jb1,List.length_take] at this;omega
 have hti:(L.take i).length=i:=by rw [List.length_take];omega
 have hf:((L.take i).flatMap pC).length=i*8:=by rw [Jb1,hti]
 rw [hf];have hd:cur.drop (8+i*8)=(L.drop (i+1)).flatMap pC++cur.drop (L.length*8):=by
  rw [←Jld,←hc,show (i+1)*8=8+i*8 by omega,List.drop_take];have:(cur.drop (8+i*8)).take (L.length*8 - (8+i*8))++(cur.drop (8+i*8)).drop (L.length*8 - (8+i*8))=cur.drop (8+i*8):=List.take_append_drop _ _;rw [List.drop_drop,show 8+i*8+(L.length*8 - (8+i*8))=L.length*8 by omega] at this;exact this.symm
 obtain⟨a0,a1,a2,a3,a4,a5,a6,a7,hab⟩:=takeW (l:=cur.take 8) (by rw [List.length_take];omega);rw [hab,hd];have e:((((((((([a0,a1,a2,a3,a4,a5,a6,a7]++(L.take i).flatMap pC++((L.drop (i+1)).flatMap pC++cur.drop (L.length*8))).set 0 (.string p.1)).set 1 (.int .i64 p.2.ep)).set 2 (.bool p.2.th)).set 3 (.int .i64 p.2.kd)).set 4 (.int .i64 p.2.lv)).set 5 (.int .i64 p.2.nd)).set 6 (.slice p.2.da p.2.dn p.2.dc)).set 7 (.string p.2.tg))=(p::(L.take i++L.drop (i+1))).flatMap pC++cur.drop (L.length*8):=by
  rw [List.flatMap_cons,List.flatMap_append];simp [pC]
 rw [e];have hl:((p::(L.take i++L.drop (i+1))).flatMap pC).length=L.length*8:=by
  rw [Jb1];simp;omega
 rw [List.take_append_of_le_length (by omega),List.take_of_length_le (by omega)]

theorem toList_inj {a b:ByteArray} (h:a.toList=b.toList):a=b:=by
 rw [ByteArray.toList_eq,ByteArray.toList_eq] at h;exact ByteArray.ext (Array.ext' h)
theorem toListNe {a b:ByteArray} (h:a≠b):(a.toList==b.toList)=false:=by
 rw [beq_eq_false_iff_ne];exact fun e=>h (toList_inj e)
theorem idle (a:Addr) (w:World):CallsD prog 352 #[.pointer (some a)] .returning w fun e u' w'=>e= .returned (.tuple #[])∧u'= .returning∧w'=w:=by
 refine callsD_of_wpS func352 rfl fun c₀ cs hu=>?_;apply wpS_seq;apply wpS_region;simp [wpOpsS,go_sem,recoverD,hu,ntmps352,Exit.thenS];refine wpS_cond (t:=false) (by simp [Act.eval,Array.replicate]) ?_;simp only [Bool.false_eq_true,if_false];refine wpS_of_wp (wp_skip ?_);cases c₀;simp_all [bodyPostS,results,results352]

def At (i:Int) (w:World) (e:Ending) (w':World):Prop:=e= .returned (.int .i64 i)∧Tn (fun _=>False) w w'
theorem Jrm {L:List (ByteArray×Ent)} {i j:Nat} {k:ByteArray} {x:Ent} {p:ByteArray×Ent} (hi:L[i]?=some (k,x)) (hnd:(L.map (·.1)).Nodup) (hj:L[j]?=some p) (hji:j<i):p.1≠k:=fun he=>by
 have h1:(L.map (·.1))[i]?=some k:=by rw [List.getElem?_map,hi];rfl
 have h2:(L.map (·.1))[j]?=some k:=by rw [List.getElem?_map,hj,←he];rfl
 have hjl:j<(L.map (·.1)).length:=(List.getElem?_eq_some_iff.1 h2).1;have:=(List.getElem?_inj hjl hnd).1 (h2.trans h1.symm);omega
theorem Jdv (B g i:Nat) (bo:Option Nat) (r:Nat) (L:List (ByteArray×Ent)) (k:ByteArray) (x:Ent) (w:World) (h:Lru w B g bo r L) (hi:L[i]?=some (k,x)) (hnd:(L.map (·.1)).Nodup) (hl:L.length≤1000):
  Calls prog 349 #[.pointer (some ⟨g,0,none⟩),.string (k)] w (At (i:Int) w):=by
 obtain⟨A,c,hc⟩:=h.cells;obtain⟨W1,hW1⟩:=words.nm (w.alloc (.cells #[.int .i64 0] 3));have hb1:=words.b1 hW1;have hbk:W1.heap[w.heap.size]?=some (.cells #[.int .i64 0] 3 (0,0)):=by rw [hW1];exact heap_alloc_new w _
 have cg:W1.cell? ⟨g,1,none⟩=some (.slice A L.length c):=(hb1.cell (p:=⟨g,1,none⟩) h.lt.2.1).trans hc.c1;have r0:W1.cell? ⟨w.heap.size,0,none⟩=some (.int .i64 0):=Jaa hbk 0;have f0:W1.frozen? ⟨w.heap.size,0,none⟩=false:=Jab hbk 0;have hk:∀j p,L[j]?=some p→∃b,A=some ⟨b,0,none⟩∧W1.cell? ⟨b,j*8,none⟩=some (.string (p.1)):=fun j p hj=>by
  obtain⟨b,h1,h2,h3,_⟩:=hc.at_ j p hj;exact⟨b,h1,(hb1.cell (p:=⟨b,j*8,none⟩) h2).trans h3⟩
 have hlt:i<L.length:=(List.getElem?_eq_some_iff.1 hi).1;have hE:Tn (fun _=>False) w (W1.setCell ⟨w.heap.size,0,none⟩ (.int .i64 (i:Int))):=by
  rw [hW1];exact ((Tn.refl _ w).alloc _).setCell (.inl (Nat.le_refl _)) _
 have hmf:∀(fn:Fn) (first cap:Array Value) (w:World),(Instr.makeFunc fn first cap).run prog w= .ok (.func fn first cap) w:=fun _ _ _ _=>rfl;have HE:=hid hE;have HK:=hid hk;have HW1:=hid hW1;have HI:=hid hi;have HN:=hid (fun (j:Nat) (p:ByteArray×Ent) (hj:L[j]?=some p) (hji:j<i)=>Jrm hi hnd hj hji);clear hE hk hW1 hi hnd hc h hb1 hbk;go_enter_defers func349,ntmps349
 go_upto_region 1 with fail
 rw [←HW1.out];go_wp2_with fail
 go_loop [12] (fun v=>∃j:Nat,j≤i∧v= .int .i64 (j:Int)) (fun v=>L.length - (intOf v).toNat)
 case atStart=>exact⟨0,Nat.zero_le _,rfl⟩
 case round=>
  obtain⟨j,hj,rfl⟩:=hrel;have hjl:j<L.length:=by omega
  obtain⟨p,hp⟩:∃p,L[j]?=some p:=⟨_,List.getElem?_eq_getElem hjl⟩
  obtain⟨b,hA,cb⟩:=HK.out j p hp;subst hA;have j0:(0:Int)≤(j:Int):=by omega
  have j1:(j:Int)<(L.length:Int):=by omega
  by_cases hji:j<i
  ·have hne:((p.1).toList==(k).toList)=false:=toListNe (HN.out j p hp hji)
   clear hp;go_wp2_with fail
   go_round
   case rel=>exact⟨j+1,by omega,by go_num⟩
   case measure=>simp [intOf];omega
  ·obtain rfl:j=i:=by omega
   have hpk:p.1=k:=by have:=hp.symm.trans HI.out;injection this with this;rw [this]
   rw [hpk] at cb;have heq:((k).toList==(k).toList)=true:=by simp
   clear hp hpk;go_wp2_with fail
   refine leaves_cons (f:=352) (args:=#[.pointer (some ⟨w.heap.size,0,none⟩)]) (by simp) (by simp [go_sem]) ?_;refine (idle ⟨w.heap.size,0,none⟩ _).mono ?_;rintro e u' w'' ⟨rfl,rfl,rfl⟩;simp [Leaves,settle,results,results349,go_sem];exact⟨_,(by rw [World.cell?_setCell_same _ _ _ r0]),rfl,HE.out⟩
theorem Jpd (B g:Nat) (bo:Option Nat) (r:Nat) (L:List (ByteArray×Ent)) (k:ByteArray) (w:World) (h:Lru w B g bo r L) (hn:∀p∈L,p.1≠k) (hl:L.length≤1000):
  Calls prog 349 #[.pointer (some ⟨g,0,none⟩),.string (k)] w (At (-1) w):=by
 obtain⟨A,c,hc⟩:=h.cells;obtain⟨W1,hW1⟩:=words.nm (w.alloc (.cells #[.int .i64 0] 3));have hb1:=words.b1 hW1;have hbk:W1.heap[w.heap.size]?=some (.cells #[.int .i64 0] 3 (0,0)):=by rw [hW1];exact heap_alloc_new w _
 have cg:W1.cell? ⟨g,1,none⟩=some (.slice A L.length c):=(hb1.cell (p:=⟨g,1,none⟩) h.lt.2.1).trans hc.c1;have r0:W1.cell? ⟨w.heap.size,0,none⟩=some (.int .i64 0):=Jaa hbk 0;have f0:W1.frozen? ⟨w.heap.size,0,none⟩=false:=Jab hbk 0;have hk:∀j p,L[j]?=some p→∃b,A=some ⟨b,0,none⟩∧W1.cell? ⟨b,j*8,none⟩=some (.string (p.1)):=fun j p hj=>by
  obtain⟨b,h1,h2,h3,_⟩:=hc.at_ j p hj;exact⟨b,h1,(hb1.cell (p:=⟨b,j*8,none⟩) h2).trans h3⟩
 have hE:Tn (fun _=>False) w (W1.setCell ⟨w.heap.size,0,none⟩ (.int .i64 (-1))):=by
  rw [hW1];exact ((Tn.refl _ w).alloc _).setCell (.inl (Nat.le_refl _)) _
 have hmf:∀(fn:Fn) (first cap:Array Value) (w:World),(Instr.makeFunc fn first cap).run prog w= .ok (.func fn first cap) w:=fun _ _ _ _=>rfl;have HE:=hid hE;have HK:=hid hk;have HW1:=hid hW1;have HN:=hid hn;clear hE hk hW1 hn hc h hb1 hbk;go_enter_defers func349,ntmps349
 go_upto_region 1 with fail
 rw [←HW1.out];go_wp2_with fail
 go_loop [12] (fun v=>∃j:Nat,j≤L.length∧v= .int .i64 (j:Int)) (fun v=>L.length - (intOf v).toNat)
 case atStart=>exact⟨0,Nat.zero_le _,rfl⟩
 case round=>
  obtain⟨j,hj,rfl⟩:=hrel;have j0:(0:Int)≤(j:Int):=by omega
  by_cases hjl:j<L.length
  ·obtain⟨p,hp⟩:∃p,L[j]?=some p:=⟨_,List.getElem?_eq_getElem hjl⟩
   obtain⟨b,hA,cb⟩:=HK.out j p hp;subst hA;have j1:(j:Int)<(L.length:Int):=by omega
   have hne:((p.1).toList==(k).toList)=false:=toListNe (HN.out p (List.mem_of_getElem? hp));clear hp;go_wp2_with fail
   go_round
   case rel=>exact⟨j+1,by omega,by go_num⟩
   case measure=>simp [intOf];omega
  ·go_wp2_with fail
   refine leaves_cons (f:=352) (args:=#[.pointer (some ⟨w.heap.size,0,none⟩)]) (by simp) (by simp [go_sem]) ?_;refine (idle ⟨w.heap.size,0,none⟩ _).mono ?_;rintro e u' w'' ⟨rfl,rfl,rfl⟩;simp [Leaves,settle,results,results349,go_sem];exact⟨_,(by rw [World.cell?_setCell_same _ _ _ r0]),rfl,HE.out⟩

def Done (Q:World→Prop) (e:Ending) (w':World):Prop:=(∃u,e= .returned u)∧Q w'
theorem infoPair:(Tryz.prog.info? 447).map (·.size)=some 8:=by kernel_rfl
theorem storeRow {w:World} {b:Nat} {cur:Array Value} {t:TypeId} (h:w.heap[b]?=some (.cells cur t (0,0))) (j:Nat) (u:Value):(w.setCell ⟨b,j,none⟩ u).heap[b]?=some (.cells (cur.setIfInBounds j u) t (0,0)):=heap_setCell_same w b j cur t u h
theorem Jev {w W3:World} {B g i r:Nat} {bo:Option Nat} {L:List (ByteArray×Ent)} {b c:Nat} {cur:Array Value} (p:ByteArray×Ent) (h:Lru w B g bo r L) (hi:i<L.length) (hbo:bo=some b) (hW:Tn (Its g bo) w W3)
  (hg:W3.heap[g]?=some (.cells #[.int .i64 (r:Int),.slice (some ⟨b,0,none⟩) L.length c] 301 (0,0))) (hb3:W3.heap[b]?=some (.cells (cur.toList.take 8++(L.take i).flatMap pC++cur.toList.drop (8+((L.take i).flatMap pC).length)).toArray 447 (0,0))) (hBb:B≤b) (h1:L.length≤c) (h2:c≤maxLen) (h3:cur.size=c*8) (h4:cur.toList.take (L.length*8)=L.flatMap pC):
  Lru ((((((((W3.setCell ⟨b,0,none⟩ (.string p.1)).setCell ⟨b,1,none⟩ (.int .i64 p.2.ep)).setCell ⟨b,2,none⟩ (.bool p.2.th)).setCell ⟨b,3,none⟩ (.int .i64 p.2.kd)).setCell ⟨b,4,none⟩ (.int .i64 p.2.lv)).setCell ⟨b,5,none⟩ (.int .i64 p.2.nd)).setCell ⟨b,6,none⟩ (.slice p.2.da p.2.dn p.2.dc)).setCell ⟨b,7,none⟩ (.string p.2.tg)) B g bo r (p::(L.take i++L.drop (i+1)))∧Tn (Its g bo) w ((((((((W3.setCell ⟨b,0,none⟩ (.string p.1)).setCell ⟨b,1,none⟩ (.int .i64 p.2.ep)).setCell ⟨b,2,none⟩ (.bool p.2.th)).setCell ⟨b,3,none⟩ (.int .i64 p.2.kd)).setCell ⟨b,4,none⟩ (.int .i64 p.2.lv)).setCell ⟨b,5,none⟩ (.int .i64 p.2.nd)).setCell ⟨b,6,none⟩ (.slice p.2.da p.2.dn p.2.dc)).setCell ⟨b,7,none⟩ (.string p.2.tg)):=by
 have hlt:=h.lt;have hbg:b≠g:=(hlt.2.2 b hbo).2.2;have hIb:Its g bo b:= .inr hbo.symm;have hll:(L.take i).length=i:=by rw [List.length_take];omega
 have hfl:((L.take i).flatMap pC).length=i*8:=by rw [Jb1,hll]
 have hcl:cur.toList.length=c*8:=by simpa using h3
 refine⟨⟨hlt.1,.slice (some ⟨b,0,none⟩) L.length c,by rw [hbo];rfl,?_,?_⟩,?_⟩
 ·rw [Below.heap_setCell _ _ _ _ hbg.symm,Below.heap_setCell _ _ _ _ hbg.symm,Below.heap_setCell _ _ _ _ hbg.symm,Below.heap_setCell _ _ _ _ hbg.symm,Below.heap_setCell _ _ _ _ hbg.symm,Below.heap_setCell _ _ _ _ hbg.symm,Below.heap_setCell _ _ _ _ hbg.symm,Below.heap_setCell _ _ _ _ hbg.symm]
  exact hg
 ·have hL:(p::(L.take i++L.drop (i+1))).length=L.length:=by simp;omega
  rw [hL];have hs:=(storeRow (storeRow (storeRow (storeRow (storeRow (storeRow (storeRow (storeRow hb3 0 (.string p.1)) 1 (.int .i64 p.2.ep)) 2 (.bool p.2.th)) 3 (.int .i64 p.2.kd)) 4 (.int .i64 p.2.lv)) 5 (.int .i64 p.2.nd)) 6 (.slice p.2.da p.2.dn p.2.dc)) 7 (.string p.2.tg))
  refine⟨by rw [Jb1,hL],.inr ⟨b,c,_,rfl,hBb,hs,h1,h2,?_,?_⟩⟩
  ·simp only [Array.size_setIfInBounds,List.size_toArray,List.length_append,List.length_take,List.length_drop]
   rw [hfl,hcl];omega
  ·rw [Array.toList_setIfInBounds,Array.toList_setIfInBounds,Array.toList_setIfInBounds,Array.toList_setIfInBounds,Array.toList_setIfInBounds,Array.toList_setIfInBounds,Array.toList_setIfInBounds,Array.toList_setIfInBounds]
   exact Jdm p hi h4
 ·exact ((((((((hW.setCell (p:=⟨b,0,none⟩) (.inr hIb) _).setCell (p:=⟨b,1,none⟩) (.inr hIb) _).setCell (p:=⟨b,2,none⟩) (.inr hIb) _).setCell (p:=⟨b,3,none⟩) (.inr hIb) _).setCell (p:=⟨b,4,none⟩) (.inr hIb) _).setCell (p:=⟨b,5,none⟩) (.inr hIb) _).setCell (p:=⟨b,6,none⟩) (.inr hIb) _).setCell (p:=⟨b,7,none⟩) (.inr hIb) _)
def Front (w:World) (B g i r:Nat) (bo:Option Nat) (L:List (ByteArray×Ent)) (p:ByteArray×Ent) (w':World):Prop:=Lru w' B g bo r (p::(L.take i++L.drop (i+1)))∧Tn (Its g bo) w w'
theorem Ja5 (B g i:Nat) (bo:Option Nat) (r:Nat) (L:List (ByteArray×Ent)) (p:ByteArray×Ent) (w:World) (h:Lru w B g bo r L) (hi:i<L.length) (hl:L.length≤1000):
  Calls prog 350 #[.pointer (some ⟨g,0,none⟩),.int .i64 (i:Int),.agg #[.string p.1,.int .i64 p.2.ep,.bool p.2.th,.int .i64 p.2.kd,.int .i64 p.2.lv,.int .i64 p.2.nd,.slice p.2.da p.2.dn p.2.dc,.string p.2.tg]] w (Done (Front w B g i r bo L p)):=by
 obtain⟨b,c,cur,hbo,hg,hb,hBb,h1,h2,h3,h4⟩:=h.row (by omega);have hbg:b≠g:=(h.lt.2.2 b hbo).2.2;obtain⟨W1,hW1⟩:=words.nm (w.alloc (.cells #[.string p.1,.int .i64 p.2.ep,.bool p.2.th,.int .i64 p.2.kd,.int .i64 p.2.lv,.int .i64 p.2.nd,.slice p.2.da p.2.dn p.2.dc,.string p.2.tg] 447));have hb1:=words.b1 hW1;have hT:=Tn.of_below hb1 (fun _=>False);have hpk:W1.heap[w.heap.size]?=some (.cells #[.string p.1,.int .i64 p.2.ep,.bool p.2.th,.int .i64 p.2.kd,.int .i64 p.2.lv,.int .i64 p.2.nd,.slice p.2.da p.2.dn p.2.dc,.string p.2.tg] 447 (0,0)):=by rw [hW1];exact heap_alloc_new w _
 have hgk:=(hb1.block _ (lt_of_some hg)).trans hg;have hbk:=(hb1.block _ (lt_of_some hb)).trans hb;have cg:W1.cell? ⟨g,1,none⟩=some (.slice (some ⟨b,0,none⟩) L.length c):=Jaa hgk 1;obtain⟨D,hD⟩:∃D:Option Addr,D=if c=1 then some ⟨b,0,none⟩ else (some ⟨b,0,none⟩:Option Addr).map (·.add (1*8)):=⟨_,rfl⟩
 have hi1:IntKind.i64.wrap ((i:Int)+1)=(i:Int)+1:=IntWalk.i64_in _ (by omega);unfold maxLen at h2;have hsl:∀W:World,(Instr.slice 299 (.slice (some ⟨b,0,none⟩) L.length c) (some (.int .i64 1)) (some (.int .i64 ((i:Int)+1))) none).run prog W= .ok (.slice D i (c - 1)) W:=fun W=>by
  have he:Tryz.prog.elem 299=447:=by kernel_rfl
  rw [run_slice_lh (P:=prog) W 299 _ _ _ (by kernel_rfl) .i64 .i64 1 ((i:Int)+1) (by omega) (by omega) (by omega),he,hD];rcases hq:Tryz.prog.info? 447 with _ |y
  ·have:=infoPair;rw [hq] at this;cases this
  ·have hy:y.size=8:=by have:=infoPair;rw [hq] at this;simpa using this
   simp [sizeOf,typeInfo,hq,hy,Result.andThen,sliced]
 obtain⟨X,hX⟩:=words.nm ((L.take i).flatMap pC);have hXl:X.length=i*8:=by rw [hX,Jb1,List.length_take];congr 1;omega
 obtain⟨W2,hW2⟩:=words.nm (W1.drew.setRow b (cur.toList.take 8++X++cur.toList.drop (8+X.length)).toArray);have hcl:cur.toList.length=c*8:=by simpa using h3
 have hpos:0<i→D=some ⟨b,8,none⟩∧∃a,(some ⟨b,0,none⟩:Option Addr)=some a∧∀j v,X[j]?=some v→W1.cell? (a.add j)=some v:=fun h0=>by
  refine⟨?_,_,rfl,fun j v hj=>?_⟩
  ·rw [hD,if_neg (by omega),Option.map_some]
   congr 1
  ·have hjl:j<X.length:=(List.getElem?_eq_some_iff.1 hj).1
   rw [show (⟨b,0,none⟩:Addr).add j=⟨b,j,none⟩ by unfold Addr.add;split<;>simp_all,Jaa hbk,←Array.getElem?_toList];rw [hX,←Jlh,←h4,List.getElem?_take,List.getElem?_take] at hj;split at hj
   ·split at hj
    ·exact hj
    ·cases hj
   ·cases hj
 have hfit:8+X.length≤cur.size:=by rw [hXl];omega
 have hone:∀v∈X,v.oneCell'=true:=fun v hv=>Jmc _ v (by rw [hX] at hv;exact hv);have hmin:i=Nat.min i i:=by simp
 have hg2:W2.heap[g]?=W1.heap[g]?:=by rw [hW2,setRow_other _ _ _ _ hbg.symm];rfl
 have cg2:W2.cell? ⟨g,1,none⟩=some (.slice (some ⟨b,0,none⟩) L.length c):=Jaa (hg2.trans hgk) 1;have hbk2:W2.heap[b]?=some (.cells (cur.toList.take 8++X++cur.toList.drop (8+X.length)).toArray 447 (0,0)):=by rw [hW2];exact setRow_heap W1.drew b cur _ _ _ hbk
 have hpb:w.heap.size≠b:=Nat.ne_of_gt (h.lt.2.2 b hbo).2.1;have hpk2:W2.heap[w.heap.size]?=some (.cells #[.string p.1,.int .i64 p.2.ep,.bool p.2.th,.int .i64 p.2.kd,.int .i64 p.2.lv,.int .i64 p.2.nd,.slice p.2.da p.2.dn p.2.dc,.string p.2.tg] 447 (0,0)):=by rw [hW2,setRow_other _ _ _ _ hpb];exact hpk
 have p0:W2.cell? ⟨w.heap.size,0,none⟩=some (.string p.1):=Jaa hpk2 0;have p1:W2.cell? ⟨w.heap.size,1,none⟩=some (.int .i64 p.2.ep):=Jaa hpk2 1;have p2:W2.cell? ⟨w.heap.size,2,none⟩=some (.bool p.2.th):=Jaa hpk2 2;have p3:W2.cell? ⟨w.heap.size,3,none⟩=some (.int .i64 p.2.kd):=Jaa hpk2 3;have p4:W2.cell? ⟨w.heap.size,4,none⟩=some (.int .i64 p.2.lv):=Jaa hpk2 4;have p5:W2.cell? ⟨w.heap.size,5,none⟩=some (.int .i64 p.2.nd):=Jaa hpk2 5;have p6:W2.cell? ⟨w.heap.size,6,none⟩=some (.slice p.2.da p.2.dn p.2.dc):=Jaa hpk2 6;have p7:W2.cell? ⟨w.heap.size,7,none⟩=some (.string p.2.tg):=Jaa hpk2 7;have hlen2:8≤(cur.toList.take 8++X++cur.toList.drop (8+X.length)).length:=by simp;omega
 obtain⟨v0,d0⟩:∃v,W2.cell? ⟨b,0,none⟩=some v:=⟨_,(Jaa hbk2 0).trans (Array.getElem?_eq_getElem (by rw [List.size_toArray];omega))⟩
 obtain⟨v1,d1⟩:∃v,W2.cell? ⟨b,1,none⟩=some v:=⟨_,(Jaa hbk2 1).trans (Array.getElem?_eq_getElem (by rw [List.size_toArray];omega))⟩
 obtain⟨v2,d2⟩:∃v,W2.cell? ⟨b,2,none⟩=some v:=⟨_,(Jaa hbk2 2).trans (Array.getElem?_eq_getElem (by rw [List.size_toArray];omega))⟩
 obtain⟨v3,d3⟩:∃v,W2.cell? ⟨b,3,none⟩=some v:=⟨_,(Jaa hbk2 3).trans (Array.getElem?_eq_getElem (by rw [List.size_toArray];omega))⟩
 obtain⟨v4,d4⟩:∃v,W2.cell? ⟨b,4,none⟩=some v:=⟨_,(Jaa hbk2 4).trans (Array.getElem?_eq_getElem (by rw [List.size_toArray];omega))⟩
 obtain⟨v5,d5⟩:∃v,W2.cell? ⟨b,5,none⟩=some v:=⟨_,(Jaa hbk2 5).trans (Array.getElem?_eq_getElem (by rw [List.size_toArray];omega))⟩
 obtain⟨v6,d6⟩:∃v,W2.cell? ⟨b,6,none⟩=some v:=⟨_,(Jaa hbk2 6).trans (Array.getElem?_eq_getElem (by rw [List.size_toArray];omega))⟩
 obtain⟨v7,d7⟩:∃v,W2.cell? ⟨b,7,none⟩=some v:=⟨_,(Jaa hbk2 7).trans (Array.getElem?_eq_getElem (by rw [List.size_toArray];omega))⟩
 have f0:W2.frozen? ⟨b,0,none⟩=false:=Jab hbk2 0;have f1:W2.frozen? ⟨b,1,none⟩=false:=Jab hbk2 1;have f2:W2.frozen? ⟨b,2,none⟩=false:=Jab hbk2 2;have f3:W2.frozen? ⟨b,3,none⟩=false:=Jab hbk2 3;have f4:W2.frozen? ⟨b,4,none⟩=false:=Jab hbk2 4;have f5:W2.frozen? ⟨b,5,none⟩=false:=Jab hbk2 5;have f6:W2.frozen? ⟨b,6,none⟩=false:=Jab hbk2 6;have f7:W2.frozen? ⟨b,7,none⟩=false:=Jab hbk2 7;have hTW:Tn (Its g bo) w W2:=by
  rw [hW2];exact (hT.drew.mono fun _ hc=>hc.elim).setRow (.inr (.inr hbo.symm)) _
 have hE:=Jev (W3:=W2) p h hi hbo hTW (hg2.trans hgk) (by rw [hX] at hbk2;exact hbk2) hBb h1 (by unfold maxLen;omega) h3 h4;have i0:(0:Int)≤(i:Int):=by omega
 have i1:(i:Int)≤(c:Int):=by omega
 have i2:(0:Int)<(L.length:Int):=by omega
 have i3:0<L.length:=by omega
 have HE:=hid hE;have HW1:=hid hW1;have HW2:=hid hW2;have HXl:=hid hXl;have HBK:=hid hbk;have HPOS:=hid hpos;have HMIN:=hid hmin;have HONE:=hid hone;have HFIT:=hid hfit;clear hE hTW hW1 hW2 hXl hbk hpos hmin hone hfit hX hD hg hb hg2 hbk2 hpk hpk2 hgk hcl h3 h4 hlen2 hT hb1 h hbo hpb;go_enter func350,ntmps350
 go_upto_region 1 with fail
 rw [←HW1.out];go_region_law (refine Jdf _ rfl (.tmp 12) (.tmp 18) 299 299 rfl 447 i 8 D (some ⟨b,0,none⟩) i (c - 1) i c underlying299 infoPair HMIN.out rfl rfl b 8 cur 447 (by first |exact HBK.out) X HXl.out HPOS.out HFIT.out HONE.out ?_;rw [←HW2.out])
 all_goals
  go_wp2_with fail
  go_region
 all_goals
  go_end0
  exact⟨⟨_,rfl⟩,HE.out.1.drewn,HE.out.2.drew⟩
theorem Jeu (B g n:Nat) (bo:Option Nat) (L:List (ByteArray×Ent)) (p:ByteArray×Ent) (w:World) (h:Lru w B g bo (n+1) L) (hn:L.length=n+1) (hp:L[n]?=some p) (hl:L.length≤1000):
  Calls prog 351 #[.pointer (some ⟨g,0,none⟩)] w fun e w'=>e= .returned (.tuple #[.int .i64 (n:Int),.string (p.1),.bool true])∧Tn (fun _=>False) w w':=by
 obtain⟨A,c,hc⟩:=h.cells;obtain⟨b,hA,_,cb,_⟩:=hc.at_ n p hp;subst hA;have c0:=hc.c0;have c1:=hc.c1;rw [hn] at c1;have hs:IntKind.i64.wrap (((n+1:Nat):Int) - 1)=(n:Int):=by rw [IntWalk.i64_in _ (by omega)];omega
 have i0:(0:Int)≤(n:Int):=by omega
 have i1:(n:Int)<((n+1:Nat):Int):=by omega
 have hs2:IntKind.i64.wrap (n:Int)=(n:Int):=IntWalk.i64_in _ (by omega);have i2:(n:Int)<(n:Int)+1:=by omega
 have ht:(((n+1:Nat):Int)==((n+1:Nat):Int))=true:=by simp
 have HN:=hid hn;clear hc h hp hn;go_enter func351,ntmps351
 go_wp2_with fail
 go_region
 all_goals
  go_wp2_with fail
  go_ret3
  exact⟨rfl,(Tn.refl _ w).drew⟩

theorem infoPr:(Tryz.prog.info? 447).map (fun i=>(i.zero,i.size,i.bytes))=some (some (.agg #[.string ⟨#[]⟩,.int .i64 0,.bool false,.int .i64 0,.int .i64 0,.int .i64 0,.slice none 0 0,.string ⟨#[]⟩]),8,96):=by kernel_rfl
theorem Jgo {w W1 w2:World} {B g r b c:Nat} {bo:Option Nat} {v:Value} {L:List (ByteArray×Ent)} {p:ByteArray×Ent} (hB:B≤g) (hvo:v.ownBlock=bo) (hg:W1.heap[g]?=some (.cells #[.int .i64 (r:Int),v] 301 (0,0))) (ho:W1.ownsRow B 447 8 v L.length (L.flatMap pC))
  (hW:Tn (fun _=>False) w W1) (ho':w2.ownsRow B 447 8 (.slice (some ⟨b,0,none⟩) (L.length+1) c) (L.length+1) (L.flatMap pC++pC p)) (hgr:W1.grownBy w2 v.ownBlock) (hat:v.ownBlock=some b∨b=W1.heap.size):
  Left w B g r bo (L++[p]) (w2.setCell ⟨g,1,none⟩ (.slice (some ⟨b,0,none⟩) (L.length+1) c)):=by
 have hgv:v.ownBlock≠some g:=Jap ho hg (by decide);have hg2:w2.heap[g]?=some (.cells #[.int .i64 (r:Int),v] 301 (0,0)):=(hgr.block g (lt_of_some hg) (fun e=>hgv e.symm)).trans hg;refine⟨⟨some b,⟨hB,.slice (some ⟨b,0,none⟩) (L.length+1) c,rfl,heap_setCell_same w2 g 1 _ _ _ hg2,?_⟩,fun b' hb'=>?_⟩,?_⟩
 ·rw [List.length_append,List.flatMap_append,List.flatMap_singleton]
  exact Jad ho' (Jap ho' hg2 (by decide)) _
 ·injection hb' with hb'
  subst hb';rcases hat with hat |hat
  ·exact .inl (hvo▸hat)
  ·right
   rw [hat];exact hW.size
 ·refine ((hW.mono fun _ hc=>hc.elim).grown hgr fun k hk=> .inr (.inr ?_)).setCell (p:=⟨g,1,none⟩) (.inr (.inl rfl)) _
  rw [←hvo,hk]
def Placed (w:World) (B g r:Nat) (bo:Option Nat) (L:List (ByteArray×Ent)) (e:Ending) (w':World):Prop:=
 e= .returned (.tuple #[.int .i64 (L.length:Int),.string ⟨#[]⟩,.bool false])∧Left w B g r bo (L++[((⟨#[]⟩:ByteArray),e0)]) w'
theorem Jf0 (B g:Nat) (bo:Option Nat) (r:Nat) (L:List (ByteArray×Ent)) (w:World) (h:Lru w B g bo r L) (hr:L.length<r) (hl:L.length≤1000) (hB:B≤w.heap.size):
  Calls prog 351 #[.pointer (some ⟨g,0,none⟩)] w (Placed w B g r bo L):=by
 obtain⟨i1,hi',hw0,hw1,hw2⟩:=info_three infoPr;obtain⟨hBg,v,hvo,hg,ho⟩:=h;obtain⟨A,l,c,rfl⟩:=Jd8 ho;obtain rfl:l=L.length:=by
  rcases ho.2 with⟨he,h0⟩ |⟨_,_,_,he,_⟩
  ·injection he with _ he _;omega
  ·injection he
 obtain⟨W1,hW1⟩:=words.nm (w.alloc (.cells #[.string ⟨#[]⟩,.int .i64 0,.bool false,.int .i64 0,.int .i64 0,.int .i64 0,.slice none 0 0,.string ⟨#[]⟩] 447));have hb1:=words.b1 hW1;have hT:=Tn.of_below hb1 (fun _=>False);have hg1:=(hb1.block _ (lt_of_some hg)).trans hg;have ho1:W1.ownsRow B 447 8 (.slice A L.length c) L.length (L.flatMap pC):=hT.own ho fun _ _ hc=>hc;have hn1:∀j u,(pC (((⟨#[]⟩:ByteArray),e0):ByteArray×Ent))[j]?=some u→W1.cell? ((⟨w.heap.size,0,none⟩:Addr).add j)=some u:=by
  rw [hW1];exact World.news_of_block (cs:=#[.string ⟨#[]⟩,.int .i64 0,.bool false,.int .i64 0,.int .i64 0,.int .i64 0,.slice none 0 0,.string ⟨#[]⟩]) (heap_alloc_new w _)
 have hz1:W1.heap.size=w.heap.size+1:=by rw [hW1];simp
 have c0:w.cell? ⟨g,0,none⟩=some (.int .i64 (r:Int)):=Jaa hg 0;have c1:w.cell? ⟨g,1,none⟩=some (.slice A L.length c):=Jaa hg 1;have hne:((L.length:Int)==(r:Int))=false:=by simp;omega
 have hne2:(L.length==r)=false:=by simp;omega
 have hB1:B≤W1.heap.size:=by omega
 have hone:=Ji7 (((⟨#[]⟩:ByteArray),e0):ByteArray×Ent);have HW1:=hid hW1;have HO:=hid ho1;have HG:=hid hg1;have HN:=hid hn1;have HT:=hid hT;have HONE:=hid hone;have HVO:=hid hvo;clear hW1 ho hg1 ho1 hn1 hT hb1 hone hvo hg;go_enter func351,ntmps351
 go_wp2_with (at_builtin;rw [←HW1.out];refine wpList_append_lies _ rfl (.tmp 32) (.tmp 34) 299 rfl B 447 i1 _ 8 96 underlying299 hi' hw0 hw1 hw2 rfl (by omega) (.slice A L.length c) L.length (L.flatMap pC) rfl HO.out ⟨w.heap.size,0,none⟩ 1 1 (pC (((⟨#[]⟩:ByteArray),e0):ByteArray×Ent)) rfl rfl HN.out HONE.out (by omega) (by simp only [maxLen];omega) (by omega) hB1 W1.heap.size rfl ?_;intro gb cap w5 hown5 hgrow5 hat5 hlt5;have hE:=Jgo (r:=r) hBg HVO.out HG.out HO.out HT.out hown5 hgrow5 hat5;have hg5:=(hgrow5.block g (lt_of_some HG.out) (fun e=>Jap HO.out HG.out (by decide) e.symm)).trans HG.out;have hc5:=Jaa hg5 1;have hf5:=Jab hg5 1;have HE:=hid hE;clear hE hg5 hown5 hgrow5 hat5)
 go_ret3
 exact⟨rfl,HE.out⟩

theorem new_any (r:Nat) (room:Int) (w:World) (hr:(r:Int)=max room 1):
  Calls prog 184 #[.int .i64 room] w fun e w'=>e= .returned (.pointer (some ⟨w.heap.size,0,none⟩))∧w'=w.alloc (.cells #[.int .i64 (r:Int),.slice none 0 0] 301):=by
 have hm:max room 1=(r:Int):=hr.symm;clear hr;go_enter func184,ntmps184
 go_wp2
 go_ret
 exact⟨rfl,rfl⟩
theorem Jl4 (w:World) (B r:Nat) (hB:B≤w.heap.size):Lru (w.alloc (.cells #[.int .i64 (r:Int),.slice none 0 0] 301)) B w.heap.size none r []:=
 ⟨hB,.slice none 0 0,rfl,heap_alloc_new w _,World.ownsRow_nil _ _ _ _⟩
theorem Jkw (B g:Nat) (bo:Option Nat) (r:Nat) (L:List (ByteArray×Ent)) (w:World) (h:Lru w B g bo r L):
  Calls prog 373 #[.pointer (some ⟨g,0,none⟩)] w fun e w'=>e= .returned (.int .i64 (L.length:Int))∧w=w':=by
 obtain⟨A,c,hc⟩:=h.cells;have c1:=hc.c1;clear hc h;go_enter func373,ntmps373
 go_wp2
 go_ret
 exact⟨rfl,rfl⟩
def gotI (L:List (ByteArray×Ent)) (k:ByteArray):Ent:=(val L k).getD e0
def gotB (L:List (ByteArray×Ent)) (k:ByteArray):Bool:=(val L k).isSome
def Got (w:World) (B g r:Nat) (bo:Option Nat) (L:List (ByteArray×Ent)) (k:ByteArray) (e:Ending) (w':World):Prop:=
 e= .returned (.tuple #[.agg #[.int .i64 (gotI L k).ep,.bool (gotI L k).th,.int .i64 (gotI L k).kd,.int .i64 (gotI L k).lv,.int .i64 (gotI L k).nd,.slice (gotI L k).da (gotI L k).dn (gotI L k).dc,.string (gotI L k).tg],.bool (gotB L k)])∧Left w B g r bo (getL L k) w'
def PutIn (w:World) (B g r:Nat) (bo:Option Nat) (L:List (ByteArray×Ent)) (k:ByteArray) (v:Ent) (e:Ending) (w':World):Prop:=
 e= .returned (.tuple #[.string (goneK L r k (⟨#[]⟩:ByteArray)),.bool (goneB L r k)])∧Left w B g r bo (putL L r k v) w'
theorem Left.of_same {w w1 w':World} {B g r:Nat} {bo:Option Nat} {L:List (ByteArray×Ent)} (h1:Tn (fun _=>False) w w1) (h:Lru w' B g bo r L) (h2:Tn (Its g bo) w1 w'):Left w B g r bo L w':=
 ⟨⟨bo,h,fun _ hb=> .inl hb⟩,(h1.mono fun _ hc=>hc.elim).trans h2⟩
theorem Left.over {w W0 w3 w4:World} {B g r q:Nat} {bo:Option Nat} {L L0:List (ByteArray×Ent)} (h:Left W0 B g r bo L w3) (h0:Below w.heap.size w W0) (hl:Lru w B g bo r L0) (hq:w.heap.size≤q) (hq0:q<W0.heap.size) (h4:Tn (fun k=>k=q) w3 w4):Left w B g r bo L w4:=by
 obtain⟨bo',h1,h2⟩:=h.ex;have hlt:=hl.lt;refine⟨⟨bo',h1.tn h4 fun k hk e=>?_,fun b hb=>(h2 b hb).imp_right fun hx=>Nat.le_trans h0.size hx⟩,?_⟩
 ·subst e
  rcases hk with rfl |hk
  ·omega
  ·rcases h2 k hk.symm with hb |hb
   ·have:=(hlt.2.2 k hb).2.1;omega
   ·omega
 ·have h3:Tn (Its g bo) w w3:=(Tn.of_below h0 _).trans h.tn
  exact h3.then h4 fun k hk e=>by omega
theorem Left.under {w W0 w3:World} {B g r:Nat} {bo:Option Nat} {L:List (ByteArray×Ent)} (h:Left W0 B g r bo L w3) (h0:Below w.heap.size w W0):Left w B g r bo L w3:=by
 obtain⟨bo',h1,h2⟩:=h.ex;exact⟨⟨bo',h1,fun b hb=>(h2 b hb).imp_right fun hx=>Nat.le_trans h0.size hx⟩,(Tn.of_below h0 _).trans h.tn⟩
theorem Jf3 (B g:Nat) (bo:Option Nat) (r:Nat) (L:List (ByteArray×Ent)) (k:ByteArray) (w:World) (h:Lru w B g bo r L) (hok:Ok L r) (hl:L.length≤1000):
  Calls prog 346 #[.pointer (some ⟨g,0,none⟩),.string k] w (Got w B g r bo L k):=by
 obtain⟨W0,hW0⟩:=words.nm (w.alloc (.cells #[.int .i64 0,.bool false,.int .i64 0,.int .i64 0,.int .i64 0,.slice none 0 0,.string ⟨#[]⟩] 248));have hb0:=words.b1 hW0;have hz0:W0.heap[w.heap.size]?=some (.cells #[.int .i64 0,.bool false,.int .i64 0,.int .i64 0,.int .i64 0,.slice none 0 0,.string ⟨#[]⟩] 248 (0,0)):=by rw [hW0];exact heap_alloc_new w _
 have h0:Lru W0 B g bo r L:=h.quiet (Tn.of_below hb0 _);have hq0:w.heap.size<W0.heap.size:=lt_of_some hz0;rcases there L k with⟨i,x,hi⟩ |hn
 ·obtain⟨hv,hg⟩:=Jvq hok hi
  have hlt:i<L.length:=(List.getElem?_eq_some_iff.1 hi).1;have HAT:=hid (Jdv B g i bo r L k x W0 h0 hi hok.nd hl);have e1:gotI L k=x:=by unfold gotI;rw [hv];rfl
  have e2:gotB L k=true:=by unfold gotB;rw [hv];rfl
  unfold Got;rw [e1,e2,hg];have H:=hid h;have H0:=hid h0;have HI:=hid hi;have HB0:=hid hb0;have HZ0:=hid hz0;have HQ0:=hid hq0;have HW0:=hid hW0;have i0:¬(i:Int)<0:=by omega
  have i00:(0:Int)≤(i:Int):=by omega
  have i1:(i:Int)<(L.length:Int):=by omega
  clear h h0 hv hg hi hok e1 e2 hb0 hz0 hW0 hq0;go_enter func346,ntmps346
  go_upto_region 1 with fail
  rw [←HW0.out];go_wp2_with fail
  refine HAT.out.mono ?_;rintro e w1 ⟨rfl,ht⟩;have h1:=H0.out.quiet ht;obtain⟨A,c,hc⟩:=h1.cells;obtain⟨b,hA,hbl,d0,d1,d2,d3,d4,d5,d6,d7⟩:=hc.at_ i (k,x) HI.out;subst hA;have c1:=hc.c1;obtain⟨W2,hW2⟩:=words.nm (w1.alloc (.cells #[.string k,.int .i64 x.ep,.bool x.th,.int .i64 x.kd,.int .i64 x.lv,.int .i64 x.nd,.slice x.da x.dn x.dc,.string x.tg] 447));have ht2:Tn (fun _=>False) w1 W2:=by rw [hW2];exact (Tn.refl _ _).alloc _
  have hbk:W2.heap[w1.heap.size]?=some (.cells #[.string k,.int .i64 x.ep,.bool x.th,.int .i64 x.kd,.int .i64 x.lv,.int .i64 x.nd,.slice x.da x.dn x.dc,.string x.tg] 447 (0,0)):=by rw [hW2];exact heap_alloc_new w1 _
  have q0:=Jaa hbk 0;have q1:=Jaa hbk 1;have q2:=Jaa hbk 2;have q3:=Jaa hbk 3;have q4:=Jaa hbk 4;have q5:=Jaa hbk 5;have q6:=Jaa hbk 6;have q7:=Jaa hbk 7;have HAH:=hid (Ja5 B g i bo r L (k,x) W2 (h1.quiet ht2) hlt hl);have HT2:=hid ((ht.trans ht2));have HS1:=hid ht.size;have HW2:=hid hW2;have HBK:=hid hbk;clear hW2 hbk hc h1 ht ht2;go_upto_region 6 with fail
  rw [←HW2.out];go_wp2_with fail
  refine HAH.out.mono ?_;rintro e w3 ⟨⟨u,rfl⟩,hf1,hf2⟩;have hE:=Left.of_same HT2.out hf1 hf2;have hfar:∀q,w.heap.size≤q→¬Its g bo q:=fun q hq hc=>by
   rcases hc with hc |hc
   ·have:=H.out.lt.2.1;omega
   ·have:=H.out.lt.2.2 _ hc.symm;omega
  have hq:w3.heap[w1.heap.size]?=some (.cells #[.string k,.int .i64 x.ep,.bool x.th,.int .i64 x.kd,.int .i64 x.lv,.int .i64 x.nd,.slice x.da x.dn x.dc,.string x.tg] 447 (0,0)):=(hf2.block _ (lt_of_some HBK.out) (hfar _ (Nat.le_trans (Nat.le_of_lt HQ0.out) HS1.out))).trans HBK.out;have hzb:w3.heap[w.heap.size]?=some (.cells #[.int .i64 0,.bool false,.int .i64 0,.int .i64 0,.int .i64 0,.slice none 0 0,.string ⟨#[]⟩] 248 (0,0)):=(hE.tn.block _ HQ0.out (hfar _ (Nat.le_refl _))).trans HZ0.out;have s0:=Jaa hq 0;have s1:=Jaa hq 1;have s2:=Jaa hq 2;have s3:=Jaa hq 3;have s4:=Jaa hq 4;have s5:=Jaa hq 5;have s6:=Jaa hq 6;have s7:=Jaa hq 7;have z0:=Jaa hzb 0;have fz0:=Jab hzb 0;have z1:=Jaa hzb 1;have fz1:=Jab hzb 1;have z2:=Jaa hzb 2;have fz2:=Jab hzb 2;have z3:=Jaa hzb 3;have fz3:=Jab hzb 3;have z4:=Jaa hzb 4;have fz4:=Jab hzb 4;have z5:=Jaa hzb 5;have fz5:=Jab hzb 5;have z6:=Jaa hzb 6;have fz6:=Jab hzb 6;have HZB:=hid hzb;have HE:=hid hE;clear hE hf1 hf2 hq hzb hfar;go_wp2_with fail
  obtain⟨W9,hW9⟩:=words.nm ((((((((w3.setCell ⟨w.heap.size,0,none⟩ (.int .i64 x.ep)).setCell ⟨w.heap.size,1,none⟩ (.bool x.th)).setCell ⟨w.heap.size,2,none⟩ (.int .i64 x.kd)).setCell ⟨w.heap.size,3,none⟩ (.int .i64 x.lv)).setCell ⟨w.heap.size,4,none⟩ (.int .i64 x.nd)).setCell ⟨w.heap.size,5,none⟩ (.slice x.da x.dn x.dc)).setCell ⟨w.heap.size,6,none⟩ (.string x.tg)));have h9:W9=setsV w3 w.heap.size 0 [.int .i64 x.ep,.bool x.th,.int .i64 x.kd,.int .i64 x.lv,.int .i64 x.nd,.slice x.da x.dn x.dc,.string x.tg]:=hW9;rw [←hW9];have hbk9:W9.heap[w.heap.size]?=some (.cells #[.int .i64 x.ep,.bool x.th,.int .i64 x.kd,.int .i64 x.lv,.int .i64 x.nd,.slice x.da x.dn x.dc,.string x.tg] 248 (0,0)):=by rw [h9];exact Jcv HZB.out rfl
  have hE9:Left w B g r bo ((k,x)::(L.take i++L.drop (i+1))) W9:=HE.out.over HB0.out H.out (Nat.le_refl _) HQ0.out (by rw [h9];exact Jc3 (S:=fun k=>k=w.heap.size) _ (.inr rfl) _ _ _ (Tn.refl _ _));have y0:=Jaa hbk9 0;have y1:=Jaa hbk9 1;have y2:=Jaa hbk9 2;have y3:=Jaa hbk9 3;have y4:=Jaa hbk9 4;have y5:=Jaa hbk9 5;have y6:=Jaa hbk9 6;exact bodyPost_ret (v:= .tuple #[.agg #[.int .i64 x.ep,.bool x.th,.int .i64 x.kd,.int .i64 x.lv,.int .i64 x.nd,.slice x.da x.dn x.dc,.string x.tg],.bool true]) (by simp [results,results346,go_sem,y0,y1,y2,y3,y4,y5,y6]) rfl ⟨rfl,hE9⟩
 ·obtain⟨hv,hg⟩:=Jnr hn
  have HAT:=hid (Jpd B g bo r L k W0 h0 hn hl);have e1:gotI L k=e0:=by unfold gotI;rw [hv];rfl
  have e2:gotB L k=false:=by unfold gotB;rw [hv];rfl
  unfold Got;rw [e1,e2,hg];have H:=hid h;have H0:=hid h0;have HB0:=hid hb0;have HZ0:=hid hz0;have HQ0:=hid hq0;have HW0:=hid hW0;clear h h0 hv hg hok e1 e2 hn hb0 hz0 hW0 hq0;go_enter func346,ntmps346
  go_upto_region 1 with fail
  rw [←HW0.out];go_wp2_with fail
  refine HAT.out.mono ?_;rintro e w1 ⟨rfl,ht⟩;obtain⟨W2,hW2⟩:=words.nm (w1.alloc (.cells #[.int .i64 0,.bool false,.int .i64 0,.int .i64 0,.int .i64 0,.slice none 0 0,.string ⟨#[]⟩] 248));have ht2:Tn (fun _=>False) W0 W2:=by rw [hW2];exact ht.alloc _
  have hE:Left W0 B g r bo L W2:=Left.of_same ht2 (H0.out.quiet ht2) (Tn.refl _ _);have hzb:W2.heap[w.heap.size]?=some (.cells #[.int .i64 0,.bool false,.int .i64 0,.int .i64 0,.int .i64 0,.slice none 0 0,.string ⟨#[]⟩] 248 (0,0)):=(ht2.block _ HQ0.out (fun hc=>hc)).trans HZ0.out;have hbk:W2.heap[w1.heap.size]?=some (.cells #[.int .i64 0,.bool false,.int .i64 0,.int .i64 0,.int .i64 0,.slice none 0 0,.string ⟨#[]⟩] 248 (0,0)):=by rw [hW2];exact heap_alloc_new w1 _
  have q0:=Jaa hbk 0;have q1:=Jaa hbk 1;have q2:=Jaa hbk 2;have q3:=Jaa hbk 3;have q4:=Jaa hbk 4;have q5:=Jaa hbk 5;have q6:=Jaa hbk 6;have z0:=Jaa hzb 0;have fz0:=Jab hzb 0;have z1:=Jaa hzb 1;have fz1:=Jab hzb 1;have z2:=Jaa hzb 2;have fz2:=Jab hzb 2;have z3:=Jaa hzb 3;have fz3:=Jab hzb 3;have z4:=Jaa hzb 4;have fz4:=Jab hzb 4;have z5:=Jaa hzb 5;have fz5:=Jab hzb 5;have z6:=Jaa hzb 6;have fz6:=Jab hzb 6;have HE:=hid hE;have HZB:=hid hzb;have HW2:=hid hW2;clear hE ht ht2 hzb hbk hW2;go_upto_region 4 with fail
  rw [←HW2.out];go_wp2_with fail
  obtain⟨W9,hW9⟩:=words.nm ((((((((W2.setCell ⟨w.heap.size,0,none⟩ (.int .i64 0)).setCell ⟨w.heap.size,1,none⟩ (.bool false)).setCell ⟨w.heap.size,2,none⟩ (.int .i64 0)).setCell ⟨w.heap.size,3,none⟩ (.int .i64 0)).setCell ⟨w.heap.size,4,none⟩ (.int .i64 0)).setCell ⟨w.heap.size,5,none⟩ (.slice none 0 0)).setCell ⟨w.heap.size,6,none⟩ (.string ⟨#[]⟩)));have h9:W9=setsV W2 w.heap.size 0 [.int .i64 0,.bool false,.int .i64 0,.int .i64 0,.int .i64 0,.slice none 0 0,.string ⟨#[]⟩]:=hW9;rw [←hW9];have hbk9:W9.heap[w.heap.size]?=some (.cells #[.int .i64 0,.bool false,.int .i64 0,.int .i64 0,.int .i64 0,.slice none 0 0,.string ⟨#[]⟩] 248 (0,0)):=by rw [h9];exact Jcv HZB.out rfl
  have hE9:Left w B g r bo L W9:=HE.out.over HB0.out H.out (Nat.le_refl _) HQ0.out (by rw [h9];exact Jc3 (S:=fun k=>k=w.heap.size) _ (.inr rfl) _ _ _ (Tn.refl _ _));have y0:=Jaa hbk9 0;have y1:=Jaa hbk9 1;have y2:=Jaa hbk9 2;have y3:=Jaa hbk9 3;have y4:=Jaa hbk9 4;have y5:=Jaa hbk9 5;have y6:=Jaa hbk9 6;exact bodyPost_ret (v:= .tuple #[.agg #[.int .i64 0,.bool false,.int .i64 0,.int .i64 0,.int .i64 0,.slice none 0 0,.string ⟨#[]⟩],.bool false]) (by simp [results,results346,go_sem,y0,y1,y2,y3,y4,y5,y6]) rfl ⟨rfl,hE9⟩
theorem Left.front {w w1 w':World} {B g r i:Nat} {bo bo1:Option Nat} {L:List (ByteArray×Ent)} {p:ByteArray×Ent} (h1:Tn (Its g bo) w w1) (hbo:∀b,bo1=some b→bo=some b∨w.heap.size≤b) (hf:Front w1 B g i r bo1 L p w'):Left w B g r bo (p::(L.take i++L.drop (i+1))) w':=
 ⟨⟨bo1,hf.1,hbo⟩,h1.then hf.2 fun k hk hs=>by
   rcases hs with rfl |hs
   ·exact .inl rfl
   ·rcases hbo k hs.symm with h |h
    ·exact .inr h.symm
    ·omega⟩
theorem Jh6 (B g:Nat) (bo:Option Nat) (r:Nat) (L:List (ByteArray×Ent)) (k:ByteArray) (v:Ent) (w:World) (h:Lru w B g bo r L) (hok:Ok L r) (hl:L.length≤900) (hB:B≤w.heap.size):
  Calls prog 347 #[.pointer (some ⟨g,0,none⟩),.string (k),.agg #[.int .i64 v.ep,.bool v.th,.int .i64 v.kd,.int .i64 v.lv,.int .i64 v.nd,.slice v.da v.dn v.dc,.string v.tg]] w (PutIn w B g r bo L k v):=by
 unfold PutIn;obtain⟨W0,hW0⟩:=words.nm (w.alloc (.cells #[.int .i64 v.ep,.bool v.th,.int .i64 v.kd,.int .i64 v.lv,.int .i64 v.nd,.slice v.da v.dn v.dc,.string v.tg] 248));have hb0:=words.b1 hW0;have hz0:W0.heap[w.heap.size]?=some (.cells #[.int .i64 v.ep,.bool v.th,.int .i64 v.kd,.int .i64 v.lv,.int .i64 v.nd,.slice v.da v.dn v.dc,.string v.tg] 248 (0,0)):=by rw [hW0];exact heap_alloc_new w _
 have HU:Hid (∀(L':List (ByteArray×Ent)) (w3:World),Left W0 B g r bo L' w3→Left w B g r bo L' w3):=hid fun L' w3 hx=>hx.under hb0;have HBX:Hid (∀(wr:World),Tn (Its g bo) W0 wr→wr.heap[w.heap.size]?=some (.cells #[.int .i64 v.ep,.bool v.th,.int .i64 v.kd,.int .i64 v.lv,.int .i64 v.nd,.slice v.da v.dn v.dc,.string v.tg] 248 (0,0))):=hid fun wr hx=>(hx.block _ (lt_of_some hz0) (fun hc=>by
     rcases hc with hc |hc
     ·have:=h.lt.2.1;omega
     ·have:=h.lt.2.2 _ hc.symm;omega)).trans hz0
 have h':Lru W0 B g bo r L:=h.quiet (Tn.of_below hb0 _);have hB':B≤W0.heap.size:=Nat.le_trans hB hb0.size;have HW0:=hid hW0;clear hW0 hb0 hz0 h hB;have h:=h';have hB:=hB';clear h' hB';rcases there L k with⟨i,x,hi⟩ |hn
 ·obtain⟨e1,e2,e3⟩:=Jvo hok hi v (⟨#[]⟩:ByteArray)
  have hlt:i<L.length:=(List.getElem?_eq_some_iff.1 hi).1;have HAT:=hid (Jdv B g i bo r L k x W0 h hi hok.nd (by omega));rw [e1,e2,e3];have H:=hid h;have i0:¬(i:Int)<0:=by omega
  clear h hi hok e1 e2 e3;go_enter func347,ntmps347
  go_upto_region 1 with fail
  rw [←HW0.out];go_wp2_with fail
  refine HAT.out.mono ?_;rintro e w1 ⟨rfl,ht⟩;have HAH:=hid (Ja5 B g i bo r L (k,v) w1 (H.out.quiet ht) hlt (by omega));have HT:=hid ht;have b0:=Jaa (HBX.out w1 (ht.mono fun _ hc=>hc.elim)) 0;have b1:=Jaa (HBX.out w1 (ht.mono fun _ hc=>hc.elim)) 1;have b2:=Jaa (HBX.out w1 (ht.mono fun _ hc=>hc.elim)) 2;have b3:=Jaa (HBX.out w1 (ht.mono fun _ hc=>hc.elim)) 3;have b4:=Jaa (HBX.out w1 (ht.mono fun _ hc=>hc.elim)) 4;have b5:=Jaa (HBX.out w1 (ht.mono fun _ hc=>hc.elim)) 5;have b6:=Jaa (HBX.out w1 (ht.mono fun _ hc=>hc.elim)) 6;clear ht;go_wp2_with fail
  refine HAH.out.mono ?_;rintro e w3 ⟨⟨u,rfl⟩,hf1,hf2⟩;have HE:=hid (Left.of_same HT.out hf1 hf2);clear hf1 hf2;go_wp2_with fail
  go_ret2
  exact⟨rfl,HU.out _ _ HE.out⟩
 ·have HAT:=hid (Jpd B g bo r L k W0 h hn (by omega))
  by_cases hr:L.length<r
  ·obtain⟨e1,e2,e3⟩:=Jdr hn hr v (⟨#[]⟩:ByteArray)
   rw [e1,e2,e3];have H:=hid h;clear h hok e1 e2 e3 hn;go_enter func347,ntmps347
   go_upto_region 1 with fail
   rw [←HW0.out];go_wp2_with fail
   refine HAT.out.mono ?_;rintro e w1 ⟨rfl,ht⟩;have HP:=hid (Jf0 B g bo r L w1 (H.out.quiet ht) hr (by omega) (by have:=ht.size;omega));have HT:=hid ht;clear ht;go_wp2_with fail
   refine HP.out.mono ?_;rintro e w2 ⟨rfl,⟨bo2,hL2,hbo2⟩,ht2⟩;have hlen:(L++[(((⟨#[]⟩:ByteArray),e0):ByteArray×Ent)]).length=L.length+1:=by simp
   have HAH:=hid (Ja5 B g L.length bo2 r _ (k,v) w2 hL2 (by rw [hlen];omega) (by rw [hlen];omega));have HT2:=hid ((HT.out.mono (S':=Its g bo) fun _ hc=>hc.elim).trans ht2);have HBO:=hid (fun b hb=>(hbo2 b hb).imp_right fun h=>Nat.le_trans HT.out.size h);have b0:=Jaa (HBX.out w2 HT2.out) 0;have b1:=Jaa (HBX.out w2 HT2.out) 1;have b2:=Jaa (HBX.out w2 HT2.out) 2;have b3:=Jaa (HBX.out w2 HT2.out) 3;have b4:=Jaa (HBX.out w2 HT2.out) 4;have b5:=Jaa (HBX.out w2 HT2.out) 5;have b6:=Jaa (HBX.out w2 HT2.out) 6;clear hL2 hbo2 ht2 hlen;go_wp2_with fail
   refine HAH.out.mono ?_;rintro e w3 ⟨⟨u,rfl⟩,hf⟩;have hE:=Left.front HT2.out HBO.out hf;rw [List.take_left,List.drop_of_length_le (by simp),List.append_nil] at hE;have HE:=hid hE;clear hE hf;go_wp2_with fail
   go_ret2
   exact⟨rfl,HU.out _ _ HE.out⟩
  ·obtain⟨n,hn1⟩:∃n,L.length=n+1:=⟨L.length - 1,by have:=hok.pos;have:=hok.len;omega⟩
   obtain rfl:r=n+1:=by have:=hok.len;omega
   obtain⟨p,hp⟩:∃p,L[n]?=some p:=⟨_,List.getElem?_eq_getElem (by omega)⟩
   obtain⟨e1,e2,e3⟩:=Jmp hn hn1 hp v (⟨#[]⟩:ByteArray);rw [e1,e2,e3];have H:=hid h;have HP1:=hid hp;have HN1:=hid hn1;have i0:¬(n:Int)<0:=by omega
   clear h hok e1 e2 e3 hn hr hp;go_enter func347,ntmps347
   go_upto_region 1 with fail
   rw [←HW0.out];go_wp2_with fail
   refine HAT.out.mono ?_;rintro e w1 ⟨rfl,ht⟩;have HP:=hid (Jeu B g n bo L p w1 (H.out.quiet ht) HN1.out HP1.out (by omega));have HT:=hid ht;clear ht;go_wp2_with fail
   refine HP.out.mono ?_;rintro e w2 ⟨rfl,ht2⟩;have HAH:=hid (Ja5 B g n bo (n+1) L (k,v) w2 ((H.out.quiet HT.out).quiet ht2) (by omega) (by omega));have HT2:=hid (HT.out.trans ht2);have b0:=Jaa (HBX.out w2 (HT2.out.mono fun _ hc=>hc.elim)) 0;have b1:=Jaa (HBX.out w2 (HT2.out.mono fun _ hc=>hc.elim)) 1;have b2:=Jaa (HBX.out w2 (HT2.out.mono fun _ hc=>hc.elim)) 2;have b3:=Jaa (HBX.out w2 (HT2.out.mono fun _ hc=>hc.elim)) 3;have b4:=Jaa (HBX.out w2 (HT2.out.mono fun _ hc=>hc.elim)) 4;have b5:=Jaa (HBX.out w2 (HT2.out.mono fun _ hc=>hc.elim)) 5;have b6:=Jaa (HBX.out w2 (HT2.out.mono fun _ hc=>hc.elim)) 6;clear ht2;go_wp2_with fail
   refine HAH.out.mono ?_;rintro e w3 ⟨⟨u,rfl⟩,hf1,hf2⟩;have HE:=hid (Left.of_same HT2.out hf1 hf2);clear hf1 hf2;go_wp2_with fail
   go_ret2
   exact⟨rfl,HU.out _ _ HE.out⟩
end Go.Proofs.YtekekhgjobahaaaGreatDoor.lrd
