import Derived.Test.YtekekhgjobahaaaGreatDoorB5
import Derived.Lib.AppendZeros
set_option maxHeartbeats 3200000
set_option maxRecDepth 100000
open Go.Lib (hid)
open Go.Proofs.Tryz
namespace Go.Proofs.YtekekhgjobahaaaGreatDoor.stk
open Go.RowKit words ext name tre

def Rows (w:World) (B:Nat) (A:Option Addr) (L:List (Nat×Int)):Prop:=
 ∀(i:Nat) (x:Nat×Int),L[i]?=some x→∃b off,A=some ⟨b,off,none⟩∧b<B∧w.cell? ⟨b,off+i*2,none⟩=some (.pointer (some ⟨x.1,0,none⟩))∧w.cell? ⟨b,off+i*2+1,none⟩=some (.int .i64 x.2)
theorem Rows.keep {w w':World} {B:Nat} {A:Option Addr} {L:List (Nat×Int)} (h:Rows w B A L) (hb:Below B w w'):Rows w' B A L:=fun i x hx=>by
 obtain⟨b,off,h1,h2,h3,h4⟩:=h i x hx;exact⟨b,off,h1,h2,(hb.cell (p:=⟨b,off+i*2,none⟩) h2).trans h3,(hb.cell (p:=⟨b,off+i*2+1,none⟩) h2).trans h4⟩
theorem Rows.more {w:World} {B B':Nat} {A:Option Addr} {L:List (Nat×Int)} (h:Rows w B A L) (hB:B≤B'):Rows w B' A L:=fun i x hx=>by
 obtain⟨b,off,h1,h2,h3⟩:=h i x hx;exact⟨b,off,h1,Nat.lt_of_lt_of_le h2 hB,h3⟩
def stkV (A:Option Addr) (n c:Nat) (ad:Int):Value:= .agg #[.slice A n c,.int .i64 ad]
theorem Jwz (A:Option Addr) (n c k:Nat) (ad:Int) (L:List (Nat×Int)) (x:Nat×Int) (w:World) (h:Rows w w.heap.size A L) (hn:L.length=n) (hx:L[k]?=some x):
  Calls prog 278 #[stkV A n c ad,.int .i64 (k:Int)] w fun e w'=>e= .returned (.agg #[.pointer (some ⟨x.1,0,none⟩),.int .i64 x.2])∧Below w.heap.size w w':=by
 obtain⟨Wa,hWa⟩:=words.nm (w.alloc (.cells #[.slice A n c,.int .i64 ad] 38));obtain⟨W1,hW1⟩:=words.nm (Wa.alloc (.cells #[.pointer none,.int .i64 0] 153));have hz:Wa.heap.size=w.heap.size+1:=by rw [hWa];simp
 have hba:=words.b1 hWa;have hb1:Below w.heap.size w W1:=by rw [hW1];exact hba.alloc hba.size _
 have hs1:W1.heap[w.heap.size]?=some (.cells #[.slice A n c,.int .i64 ad] 38 (0,0)):=by
  rw [hW1];refine (Below.heap_alloc Wa _ _ (by omega)).trans ?_;rw [hWa];exact heap_alloc_new w _
 have hr1:W1.heap[w.heap.size+1]?=some (.cells #[.pointer none,.int .i64 0] 153 (0,0)):=by rw [hW1,←hz];exact heap_alloc_new Wa _
 obtain⟨b,off,rfl,hlt,e0,e1⟩:=(h.keep hb1) k x hx;have hkn:k<n:=by rw [←hn];exact (List.getElem?_eq_some_iff.1 hx).1
 have g0:¬(k:Int)<0:=by omega
 have g1:(k:Int)<(n:Int):=by omega
 have s0:W1.cell? ⟨w.heap.size,0,none⟩=some (.slice (some ⟨b,off,none⟩) n c):=Jaa hs1 0;have r0:W1.cell? ⟨w.heap.size+1,0,none⟩=some (.pointer none):=Jaa hr1 0;have r1:W1.cell? ⟨w.heap.size+1,1,none⟩=some (.int .i64 0):=Jaa hr1 1;have f0:=Jab hr1 0;have f1:=Jab hr1 1;obtain⟨W2,hW2⟩:=words.nm ((W1.setCell ⟨w.heap.size+1,0,none⟩ (.pointer (some ⟨x.1,0,none⟩))).setCell ⟨w.heap.size+1,1,none⟩ (.int .i64 x.2));have h20:=heap_setCell_same W1 (w.heap.size+1) 0 _ _ (.pointer (some ⟨x.1,0,none⟩)) hr1;have h21:=heap_setCell_same _ (w.heap.size+1) 1 _ _ (.int .i64 x.2) h20;rw [←hW2] at h21;have p0:W2.cell? ⟨w.heap.size+1,0,none⟩=some (.pointer (some ⟨x.1,0,none⟩)):=Jaa h21 0;have p1:W2.cell? ⟨w.heap.size+1,1,none⟩=some (.int .i64 x.2):=Jaa h21 1;have hb2:Below w.heap.size w W2:=by rw [hW2];exact (hb1.setCell (p:=⟨w.heap.size+1,0,none⟩) (by show w.heap.size≤w.heap.size+1;omega) _).setCell (p:=⟨w.heap.size+1,1,none⟩) (by show w.heap.size≤w.heap.size+1;omega) _
 rw [hWa] at hW1;have HW1:=hid hW1;have HW2:=hid hW2;have HB2:=hid hb2;clear hba hb1 hs1 hr1 h20 h21 hW1 hWa hW2 hb2 hz h hx hlt hn;unfold stkV;go_enter func278,ntmps278
 go_upto_region 1 with fail
 rw [←HW1.out];go_wp2_with fail
 rw [←HW2.out];exact bodyPost_ret (v:= .agg #[.pointer (some ⟨x.1,0,none⟩),.int .i64 x.2]) (by simp [results,results278,go_sem,p0,p1]) rfl ⟨rfl,HB2.out⟩
theorem Jmb (A:Option Addr) (n c k:Nat) (ad:Int) (L:List (Nat×Int)) (x:Nat×Int) (w:World) (h:Rows w w.heap.size A L) (hn:L.length=n) (hx:L[k]?=some x):
  Calls prog 276 #[stkV A n c ad,.int .i64 (k:Int)] w fun e w'=>e= .returned (.pointer (some ⟨x.1,0,none⟩))∧Below w.heap.size w w':=by
 obtain⟨W1,hW1⟩:=words.nm (w.alloc (.cells #[.slice A n c,.int .i64 ad] 38));have hb1:=words.b1 hW1;have hs1:W1.heap[w.heap.size]?=some (.cells #[.slice A n c,.int .i64 ad] 38 (0,0)):=by rw [hW1];exact heap_alloc_new w _
 have s0:W1.cell? ⟨w.heap.size,0,none⟩=some (.slice A n c):=Jaa hs1 0;have s1:W1.cell? ⟨w.heap.size,1,none⟩=some (.int .i64 ad):=Jaa hs1 1;have HR:=Jwz A n c k ad L x W1 ((h.keep hb1).more hb1.size) hn hx;unfold stkV at HR ⊢;have HR:=hid HR;have HW1:=hid hW1;have HB1:=hid hb1;clear hW1 hb1 hs1 h hx hn;go_enter func276,ntmps276
 go_upto_region 1 with fail
 rw [←HW1.out];go_wp2_with fail
 refine HR.out.mono ?_;rintro e w2 ⟨rfl,hb2⟩;have HB2:=hid (HB1.out.trans (hb2.mono HB1.out.size));have hf:∀w':World,Sem.run prog (Instr.field 153 (.agg #[.pointer (some ⟨x.1,0,none⟩),.int .i64 x.2]) 0) w'= .ok (.pointer (some ⟨x.1,0,none⟩)) w':=fun _=>by kernel_rfl
 clear hb2 HR s0 s1;go_wp2_with fail
 go_ret
 exact⟨rfl,HB2.out⟩
theorem slen_any (A:Option Addr) (n c:Nat) (ad:Int) (w:World):Calls prog 37 #[stkV A n c ad] w fun e w'=>e= .returned (.int .i64 (n:Int))∧Below w.heap.size w w':=by
 obtain⟨W1,hW1⟩:=words.nm (w.alloc (.cells #[.slice A n c,.int .i64 ad] 38));have hb1:=words.b1 hW1;have hs1:W1.heap[w.heap.size]?=some (.cells #[.slice A n c,.int .i64 ad] 38 (0,0)):=by rw [hW1];exact heap_alloc_new w _
 have s0:W1.cell? ⟨w.heap.size,0,none⟩=some (.slice A n c):=Jaa hs1 0;have HW1:=hid hW1;have HB1:=hid hb1;clear hW1 hb1 hs1;unfold stkV;go_enter func37,ntmps37
 go_upto_region 1 with fail
 rw [←HW1.out];go_wp2_with fail
 go_ret
 exact⟨rfl,HB1.out⟩

theorem infoRow:(Tryz.prog.info? 153).map (fun i=>(i.zero,i.size,i.bytes))=some (some (.agg #[.pointer none,.int .i64 0]),2,16):=by kernel_rfl
def rowC (x:Nat×Int):List Value:=[.pointer (some ⟨x.1,0,none⟩),.int .i64 x.2]
theorem Jum (L:List (Nat×Int)):∀u∈L.flatMap rowC,u.oneCell'=true:=fun u hu=>by
 obtain⟨x,_,hx⟩:=List.mem_flatMap.1 hu;simp only [rowC,List.mem_cons,List.mem_nil_iff,or_false] at hx;rcases hx with rfl |rfl<;>rfl
theorem Jdt (L:List (Nat×Int)):(L.flatMap rowC).length=L.length*2:=by
 induction L with
 |nil=>rfl
 |cons h K ih=>rw [List.flatMap_cons,List.length_append,ih,List.length_cons];simp [rowC];omega
theorem Jls:∀{L:List (Nat×Int)} {k:Nat} {x:Nat×Int},L[k]?=some x→∀j,j<2→(L.flatMap rowC)[k*2+j]?=(rowC x)[j]?
 |[],k,x,hk,_,_=>by simp at hk
 |y::L,k,x,hk,j,hj=>by
  rw [List.flatMap_cons];rcases k with _ |k
  ·obtain rfl:y=x:=by simpa using hk
   rw [List.getElem?_append_left (by simp [rowC];omega),Nat.zero_mul,Nat.zero_add]
  ·rw [List.getElem?_append_right (by simp [rowC];omega),←Jls (L:=L) (k:=k) (by simpa using hk) j hj]
   congr 1;simp [rowC];omega
def Owned (w:World) (B:Nat) (n:Nat) (v:Value) (L:List (Nat×Int)):Prop:=w.ownsRow B 153 2 v n (L.flatMap rowC)
def Grown (w:World) (e:Ending) (w':World):Prop:=∃v,e= .returned v∧Owned w' w.heap.size 0 v []∧Below w.heap.size w w'
theorem Jup (n:Nat) (w:World) (hn:n≤1000):Calls prog 120 #[.slice none 0 0,.int .i64 (n:Int)] w (Grown w):=by
 obtain⟨i0,hi,hz0,hy1,hy2⟩:=info_parts infoRow;rcases Nat.eq_zero_or_pos n with rfl |hpos
 ·have HE:Hid (Grown w (.returned (.slice none 0 0)) w):=hid ⟨_,rfl,World.ownsRow_nil _ _ _ _,Below.refl _ _⟩
  go_enter func120,ntmps120
  go_wp2_with fail
  go_ret
  exact HE.out
 ·have h:=fun ty=>Lib.run_append_nil_zeros w 36 3 ty 153 i0 (.agg #[.pointer none,.int .i64 0]) .i64 .i64 underlying36 underlying3 hi hz0 n hpos (by omega) (by omega) (by rw [hy2];omega)
  obtain⟨G,hG⟩:=words.nm (grownCap w n 0 153);obtain⟨cs,hcs⟩:=words.nm (Builtin.zeroCells (Value.agg #[.pointer none,.int .i64 0]).cells n++Builtin.zeroCells (Value.agg #[.pointer none,.int .i64 0]).cells (G - n));have hGn:n≤G:=by rw [hG];exact grownCap_ge w _ _ _
  have hGm:G≤maxLen:=by rw [hG];exact grownCap_le_maxLen w n 0 _ (by unfold maxLen;omega)
  rw [←hG,←hcs] at h;have hsz:cs.size=G*2:=by rw [hcs];simp [Builtin.zeroCells,Value.cells];omega
  have hown:(w.drew.alloc (.cells cs 153)).ownsRow w.heap.size 153 2 (.slice (some ⟨w.heap.size,0,none⟩) 0 G) 0 []:=World.ownsRow_made w.drew cs G (Nat.le_refl _) hGm hsz;have HE:Hid (Grown w (.returned (.slice (some ⟨w.heap.size,0,none⟩) 0 G)) (w.drew.alloc (.cells cs 153))):=hid ⟨_,rfl,hown,(Below.refl _ _).drew.alloc (Nat.le_refl _) _⟩;have HH:=hid h;have p0:(0:Int)<(n:Int):=by omega
  have p1:(n:Int)≤1000:=by omega
  have p2:(G:Int)≤9223372036854775807:=by unfold maxLen at hGm;omega
  clear h hown hG hcs hsz hGm;go_enter func120,ntmps120
  go_wp2_with (at_builtin;refine Lib.wpList_append_run _ rfl _ _ _ _ rfl _ _ rfl rfl _ _ (HH.out _) ?_)
  go_ret
  exact HE.out

structure Slc (w:World) (B:Nat) (A:Option Addr) (c:Nat) (L:List (Nat×Int)):Prop where
 rows:Rows w B A L
 cap:L.length≤c
 max:c≤maxLen
 nil:A=none→L=[]∧c=0
theorem Slc.keep {w w':World} {B:Nat} {A:Option Addr} {c:Nat} {L:List (Nat×Int)} (h:Slc w B A c L) (hb:Below B w w'):Slc w' B A c L:=⟨h.rows.keep hb,h.cap,h.max,h.nil⟩
theorem Slc.more {w:World} {B B':Nat} {A:Option Addr} {c:Nat} {L:List (Nat×Int)} (h:Slc w B A c L) (hB:B≤B'):Slc w B' A c L:=⟨h.rows.more hB,h.cap,h.max,h.nil⟩
theorem Slc.later {w w':World} {A:Option Addr} {c:Nat} {L:List (Nat×Int)} (h:Slc w w.heap.size A c L) (hb:Below w.heap.size w w'):Slc w' w'.heap.size A c L:=(h.keep hb).more hb.size
theorem Slc.none (w:World) (B:Nat):Slc w B none 0 []:=⟨fun i x hx=>by simp at hx,Nat.le_refl _,by unfold maxLen;omega,fun _=>⟨rfl,rfl⟩⟩
theorem Rows.lies {w:World} {A:Option Addr} {L:List (Nat×Int)} (h:Rows w w.heap.size A L):Lies w A (L.flatMap rowC):=fun j u hj=>by
 have hlt:=(List.getElem?_eq_some_iff.1 hj).1;rw [Jdt] at hlt;obtain⟨x,hx⟩:∃x,L[j / 2]?=some x:=⟨_,List.getElem?_eq_getElem (by omega)⟩
 obtain⟨b,off,h1,h2,h3,h4⟩:=h _ x hx;refine⟨b,off,h1,h2,?_⟩;have e:=Jls hx (j % 2) (Nat.mod_lt _ (by omega));rw [show j / 2*2+j % 2=j by omega,hj] at e;rcases (show j % 2=0∨j % 2=1 by omega) with hm |hm
 ·rw [hm] at e
  rw [show off+j=off+j / 2*2 by omega,h3];exact e.symm
 ·rw [hm] at e
  rw [show off+j=off+j / 2*2+1 by omega,h4];exact e.symm
theorem Owned.slc {w:World} {B n:Nat} {A:Option Addr} {l c:Nat} {L:List (Nat×Int)} (h:Owned w B n (.slice A l c) L):l=L.length∧n=L.length∧Slc w w.heap.size A c L:=by
 have hn:n=L.length:=by
  have:=h.1;rw [Jdt] at this;omega
 subst hn;rcases h.2 with⟨h0,h1⟩ |⟨g,cap,cur,hv,_,hh,h1,h2,h3,h4⟩
 ·injection h0 with e1 e2 e3
  subst e1 e2 e3;have hL:=List.eq_nil_of_length_eq_zero h1;subst hL;exact⟨rfl,rfl,Slc.none _ _⟩
 ·injection hv with e1 e2 e3
  subst e1 e2 e3;refine⟨rfl,rfl,fun i x hx=>?_,h1,h2,fun e=>by cases e⟩;have key:∀j u,(rowC x)[j]?=some u→j<2→w.cell? ⟨g,i*2+j,none⟩=some u:=fun j u hu hj=>by
   have e:=(Jls hx j hj).trans hu;rw [←h4] at e;have hlt:=(List.getElem?_eq_some_iff.1 e).1;rw [Jaa hh,←Array.getElem?_toList];rw [List.getElem?_take] at e;split at e
   ·exact e
   ·cases e
  exact⟨g,0,rfl,lt_of_some hh,by rw [Nat.zero_add];exact key 0 _ rfl (by omega),by rw [Nat.zero_add];exact key 1 _ rfl (by omega)⟩
def Slcs (w:World) (B:Nat) (A:Option Addr) (Ls:List (List (Nat×Int))):Prop:=
 ∀i l,Ls[i]?=some l→∃b off Ai ci,A=some ⟨b,off,none⟩∧b<B∧w.cell? ⟨b,off+i,none⟩=some (.slice Ai l.length ci)∧Slc w B Ai ci l
theorem Slcs.keep {w w':World} {B:Nat} {A:Option Addr} {Ls:List (List (Nat×Int))} (h:Slcs w B A Ls) (hb:Below B w w'):Slcs w' B A Ls:=fun i l hl=>by
 obtain⟨b,off,Ai,ci,h1,h2,h3,h4⟩:=h i l hl;exact⟨b,off,Ai,ci,h1,h2,(hb.cell (p:=⟨b,off+i,none⟩) h2).trans h3,h4.keep hb⟩
theorem Owned.base {w:World} {B B' n:Nat} {v:Value} {L:List (Nat×Int)} (h:Owned w B n v L) (hB:B'≤B):Owned w B' n v L:=by
 refine⟨h.1,?_⟩;rcases h.2 with h0 |⟨g,cap,cur,e1,e2,e3⟩
 ·exact .inl h0
 ·exact .inr ⟨g,cap,cur,e1,Nat.le_trans hB e2,e3⟩
theorem Owned.store {w:World} {B n:Nat} {v:Value} {L:List (Nat×Int)} (h:Owned w B n v L) {g:Nat} (hg:g<B) (i:Nat) (u:Value):Owned (w.setCell ⟨g,i,none⟩ u) B n v L:=
 Jad h (fun e=>by have:=(World.ownsRow.lt h g e).1;omega) u
def Joined (w:World) (L:List (Nat×Int)) (e:Ending) (w':World):Prop:=∃A c,e= .returned (.slice A L.length c)∧Owned w' w.heap.size L.length (.slice A L.length c) L∧Below w.heap.size w w'
structure InC (w:World) (L:List (Nat×Int)) (v:Value) (wr:World):Prop where
 own:Owned wr w.heap.size L.length v L
 below:Below w.heap.size w wr
theorem InC.fin {w wr:World} {L:List (Nat×Int)} {v:Value} (h:InC w L v wr):Joined w L (.returned v) wr:=by
 obtain⟨A,l,c,rfl⟩:=Jd8 h.own;obtain⟨rfl,_,e3⟩:=h.own.slc;exact⟨A,c,rfl,h.own,h.below⟩
theorem Jo4 (A:Option Addr) (c:Nat) (Ls:List (List (Nat×Int))) (w:World) (hL:Slcs w w.heap.size A Ls) (hn:Ls.length≤10) (ht:∀l∈Ls,l.length≤100):
  Calls prog 76 #[.slice A Ls.length c] w (Joined w Ls.flatten):=by
 obtain⟨i0,hi,hz0,hy1,hy2⟩:=info_parts infoRow;have hfl:∀k,k≤Ls.length→(Ls.take k).flatten.length≤k*100:=by
  intro k
  induction k with
  |zero=>intro _;simp
  |succ k ih=>
   intro hk;rw [List.take_succ_eq_append_getElem (by omega),List.flatten_append,List.length_append,List.flatten_cons,List.flatten_nil,List.append_nil,Nat.succ_mul];have h1:=ih (by omega);have h2:=ht Ls[k] (List.getElem_mem _);omega
 have HL:=hid hL;have HFl:=hid hfl;have HT:=hid ht;clear hL hfl ht;go_enter func76,ntmps76
 go_wp2_with fail
 go_loop [11,3] (fun v v3=>∃k s:Nat,v= .int .i64 (k:Int)∧k≤Ls.length∧v3= .int .i64 (s:Int)∧s=(Ls.take k).flatten.length) (fun v _=>Ls.length - (intOf v).toNat)
 case atStart=>exact⟨0,0,rfl,Nat.zero_le _,rfl,rfl⟩
 case round=>
  obtain⟨k,s,rfl,hk,rfl,hs⟩:=hrel;have hsb:=HFl.out k hk;rw [←hs] at hsb;have HS:=hid hs;clear hs;by_cases hlt:k<Ls.length
  ·obtain⟨l,hl⟩:∃l,Ls[k]?=some l:=⟨_,List.getElem?_eq_getElem hlt⟩
   obtain⟨b,off,Ai,ci,hA,hB,c0,_⟩:=HL.out k l hl;subst hA;have hll:=HT.out l (List.mem_of_getElem? hl);have i0':(0:Int)≤(k:Int):=by omega
   have i1:(k:Int)<(Ls.length:Int):=by omega
   have i2:(s:Int)≤1000:=by omega
   have i3:(l.length:Int)≤100:=by omega
   have HN:=hid (show s+l.length=(Ls.take (k+1)).flatten.length by
     obtain⟨hk',rfl⟩:=List.getElem?_eq_some_iff.1 hl;rw [List.take_succ_eq_append_getElem hk',List.flatten_append,List.length_append,←HS.out];simp)
   clear hl;go_wp2_with fail
   go_round
   case rel=>exact⟨k+1,s+l.length,by go_num,by omega,by go_num,HN.out⟩
   case measure=>simp [intOf];omega
  ·obtain rfl:k=Ls.length:=by omega
   have hse:s=Ls.flatten.length:=by rw [HS.out,List.take_length]
   have HG:=hid (Jup s w (by omega));have i2:(s:Int)≤1000:=by omega
   clear hse;go_wp2_with fail
   refine HG.out.mono ?_;rintro e w1 ⟨v1,rfl,hown1,hb1⟩;have HI:Hid (InC w (Ls.take 0).flatten v1 w1):=hid ⟨hown1,hb1⟩;clear hown1 hb1 HG;go_wp2_with fail
   go_loopw [27,6] (fun v v6 wr=>∃k:Nat,v= .int .i64 (k:Int)∧k≤Ls.length∧Hid (InC w (Ls.take k).flatten v6 wr)) (fun v _ _=>Ls.length - (intOf v).toNat)
   case atStart=>exact⟨0,rfl,Nat.zero_le _,HI⟩
   case round=>
    obtain⟨k,rfl,hk2,HC⟩:=hrel;by_cases hlt2:k<Ls.length
    ·obtain⟨l,hl⟩:∃l,Ls[k]?=some l:=⟨_,List.getElem?_eq_getElem hlt2⟩
     obtain⟨b,off,Ai,ci,hA,hB,c0,hsl⟩:=HL.out k l hl;subst hA;have hll:=HT.out l (List.mem_of_getElem? hl);have hkb:=HFl.out k hk2;have cw:wr.cell? ⟨b,off+k,none⟩=some (.slice Ai l.length ci):=(HC.out.below.cell (p:=⟨b,off+k,none⟩) hB).trans c0;have i0':(0:Int)≤(k:Int):=by omega
     have i1:(k:Int)<(Ls.length:Int):=by omega
     have hlies:=((hsl.keep HC.out.below).more HC.out.below.size).rows.lies;have HLi:=hid hlies;have HNil:=hid (show Ai=none→l.length=0∧ci=0 from fun e=>by obtain⟨e1,e2⟩:=hsl.nil e;rw [e1];exact⟨rfl,e2⟩);have HOw:=hid HC.out.own;have HB:=hid HC.out.below;have HZ:=hid HC.out.below.size;have HE:=hid (show (Ls.take (k+1)).flatten=(Ls.take k).flatten++l by
       obtain⟨hk',rfl⟩:=List.getElem?_eq_some_iff.1 hl;rw [List.take_succ_eq_append_getElem hk',List.flatten_append];simp)
     unfold Owned at HOw;clear hl hsl hlies c0;go_wp2_with (at_builtin;refine Jex rfl (.tmp 31) (.tmp 32) 36 rfl w.heap.size 153 i0 _ 2 16 underlying36 hi hz0 hy1 hy2 rfl (by omega) u6 (Ls.take k).flatten.length ((Ls.take k).flatten.flatMap rowC) rfl HOw.out Ai l.length ci (l.flatMap rowC) HNil.out rfl (Jdt l) HLi.out (Jum l) (by simp only [maxLen];omega) (by omega) HZ.out ?_;intro v5 w5 hown5 hgrow5)
     have HN:Hid (InC w (Ls.take (k+1)).flatten v5 w5):=hid ⟨by
       unfold Owned;rw [HE.out,List.length_append,List.flatMap_append];exact hown5,HB.out.trans ((Kept.refl (fun t=>t=153) w.heap.size wr |>.grown hgrow5 HOw.out (Nat.le_refl _) rfl).below HZ.out)⟩
     clear hown5 hgrow5;go_roundw
     case rel=>exact⟨k+1,by go_num,by omega,HN⟩
     case measure=>simp [intOf];omega
    ·obtain rfl:k=Ls.length:=by omega
     have hf:=HC.out;rw [List.take_length] at hf;have HF:=hid hf.fin;clear hf HC;go_wp2_with fail
     go_ret
     exact HF.out

theorem over2 {w:World} {g:Nat} {T:TypeId} {c0 c1 u0 u1:Value} (h:w.heap[g]?=some (.cells #[c0,c1] T (0,0))):
  ((w.setCell ⟨g,0,none⟩ u0).setCell ⟨g,1,none⟩ u1).heap[g]?=some (.cells #[u0,u1] T (0,0)):=
 heap_setCell_same _ g 1 _ _ u1 (heap_setCell_same w g 0 _ _ u0 h)
theorem Jyt (A:Option Addr) (n c:Nat) (ad:Int) (p:Option Addr) (w:World) (hn:64≤n):
  Calls prog 48 #[stkV A n c ad,.pointer p] w fun e w'=>e= .returned (.tuple #[stkV A n c ad,.int .i64 0,.int .i64 6])∧Below w.heap.size w w':=by
 obtain⟨Wa,hWa⟩:=words.nm (w.alloc (.cells #[.slice A n c,.int .i64 ad] 38));obtain⟨W1,hW1⟩:=words.nm (Wa.alloc (.cells #[.slice none 0 0,.int .i64 0] 38));have hz:Wa.heap.size=w.heap.size+1:=by rw [hWa];simp
 have hba:=words.b1 hWa;have hb1:Below w.heap.size w W1:=by rw [hW1];exact hba.alloc hba.size _
 have hs1:W1.heap[w.heap.size]?=some (.cells #[.slice A n c,.int .i64 ad] 38 (0,0)):=by
  rw [hW1];refine (Below.heap_alloc Wa _ _ (by omega)).trans ?_;rw [hWa];exact heap_alloc_new w _
 have hr1:W1.heap[w.heap.size+1]?=some (.cells #[.slice none 0 0,.int .i64 0] 38 (0,0)):=by rw [hW1,←hz];exact heap_alloc_new Wa _
 have s0:W1.cell? ⟨w.heap.size,0,none⟩=some (.slice A n c):=Jaa hs1 0;have s1:W1.cell? ⟨w.heap.size,1,none⟩=some (.int .i64 ad):=Jaa hs1 1;have r0:W1.cell? ⟨w.heap.size+1,0,none⟩=some (.slice none 0 0):=Jaa hr1 0;have r1:W1.cell? ⟨w.heap.size+1,1,none⟩=some (.int .i64 0):=Jaa hr1 1;have f0:=Jab hr1 0;have f1:=Jab hr1 1;obtain⟨W2,hW2⟩:=words.nm ((W1.setCell ⟨w.heap.size+1,0,none⟩ (.slice A n c)).setCell ⟨w.heap.size+1,1,none⟩ (.int .i64 ad));have h21:=over2 (u0:= .slice A n c) (u1:= .int .i64 ad) hr1;rw [←hW2] at h21;have p0:W2.cell? ⟨w.heap.size+1,0,none⟩=some (.slice A n c):=Jaa h21 0;have p1:W2.cell? ⟨w.heap.size+1,1,none⟩=some (.int .i64 ad):=Jaa h21 1;have hb2:Below w.heap.size w W2:=by rw [hW2];exact (hb1.setCell (p:=⟨w.heap.size+1,0,none⟩) (by show w.heap.size≤w.heap.size+1;omega) _).setCell (p:=⟨w.heap.size+1,1,none⟩) (by show w.heap.size≤w.heap.size+1;omega) _
 have g:(64:Int)≤(n:Int):=by omega
 rw [hWa] at hW1;have HW1:=hid hW1;have HW2:=hid hW2;have HB2:=hid hb2;clear hba hb1 hs1 hr1 h21 hW1 hWa hW2 hb2 hz;unfold stkV;go_enter func48,ntmps48
 go_upto_region 1 with fail
 rw [←HW1.out];go_wp2_with fail
 rw [←HW2.out];exact bodyPost_ret (v:= .tuple #[.agg #[.slice A n c,.int .i64 ad],.int .i64 0,.int .i64 6]) (by simp [results,results48,go_sem,p0,p1]) rfl ⟨rfl,HB2.out⟩

def Added (ad:Int) (L:List (Nat×Int)) (w:World) (e:Ending) (w':World):Prop:=
 ∃A c,e= .returned (.tuple #[stkV A L.length c (ad+1),.int .i64 ad,.int .i64 0])∧Owned w' w.heap.size L.length (.slice A L.length c) L∧Below w.heap.size w w'
theorem Jvy (A:Option Addr) (c:Nat) (ad:Int) (g:Nat) (L:List (Nat×Int)) (w:World) (hL:Slc w w.heap.size A c L) (hn:L.length<64) (ha0:0≤ad) (ha1:ad≤1000000):
  Calls prog 48 #[stkV A L.length c ad,.pointer (some ⟨g,0,none⟩)] w (Added ad ((g,ad)::L) w):=by
 obtain⟨Wa,hWa⟩:=words.nm (w.alloc (.cells #[.slice A L.length c,.int .i64 ad] 38));obtain⟨W1,hW1⟩:=words.nm (Wa.alloc (.cells #[.slice none 0 0,.int .i64 0] 38));obtain⟨W2,hW2⟩:=words.nm (W1.alloc (.cells #[.pointer (some ⟨g,0,none⟩),.int .i64 ad] 153));obtain⟨W3,hW3⟩:=words.nm (W2.alloc (.cells #[.slice (some ⟨w.heap.size+2,0,none⟩) 1 1,.slice A L.length c] 36));have hz:Wa.heap.size=w.heap.size+1:=by rw [hWa];simp
 have hz1:W1.heap.size=w.heap.size+2:=by rw [hW1];simp [hz]
 have hz2:W2.heap.size=w.heap.size+3:=by rw [hW2];simp [hz1]
 have hz3:W3.heap.size=w.heap.size+4:=by rw [hW3];simp [hz2]
 have hba:=words.b1 hWa;have hb1:Below w.heap.size w W1:=by rw [hW1];exact hba.alloc hba.size _
 have hb2:Below w.heap.size w W2:=by rw [hW2];exact hb1.alloc hb1.size _
 have hb3:Below w.heap.size w W3:=by rw [hW3];exact hb2.alloc hb2.size _
 have hs2:W2.heap[w.heap.size]?=some (.cells #[.slice A L.length c,.int .i64 ad] 38 (0,0)):=by
  rw [hW2];refine (Below.heap_alloc W1 _ _ (by omega)).trans ?_;rw [hW1];refine (Below.heap_alloc Wa _ _ (by omega)).trans ?_;rw [hWa];exact heap_alloc_new w _
 have hr2:W2.heap[w.heap.size+1]?=some (.cells #[.slice none 0 0,.int .i64 0] 38 (0,0)):=by
  rw [hW2];refine (Below.heap_alloc W1 _ _ (by omega)).trans ?_;rw [hW1,←hz];exact heap_alloc_new Wa _
 have hu2:W2.heap[w.heap.size+2]?=some (.cells #[.pointer (some ⟨g,0,none⟩),.int .i64 ad] 153 (0,0)):=by rw [hW2,←hz1];exact heap_alloc_new W1 _
 have hk3:W3.heap[w.heap.size+3]?=some (.cells #[.slice (some ⟨w.heap.size+2,0,none⟩) 1 1,.slice A L.length c] 36 (0,0)):=by rw [hW3,←hz2];exact heap_alloc_new W2 _
 have hb23:Below W2.heap.size W2 W3:=words.b1 hW3;have hu3:=(hb23.block _ (lt_of_some hu2)).trans hu2;have hone:Slc W3 W3.heap.size (some ⟨w.heap.size+2,0,none⟩) 1 [(g,ad)]:=⟨fun i x hx=>by
   rcases i with _ |i
   ·obtain rfl:(g,ad)=x:=by simpa using hx
    exact⟨_,_,rfl,lt_of_some hu3,Jaa hu3 0,Jaa hu3 1⟩
   ·simp at hx,Nat.le_refl _,by decide,fun e=>by cases e⟩
 have hSl:Slcs W3 W3.heap.size (some ⟨w.heap.size+3,0,none⟩) [[(g,ad)],L]:=fun i l hl=>by
  rcases i with _ |_ |i
  ·obtain rfl:[(g,ad)]=l:=by simpa using hl
   exact⟨_,_,_,_,rfl,lt_of_some hk3,Jaa hk3 0,hone⟩
  ·obtain rfl:L=l:=by simpa using hl
   exact⟨_,_,_,_,rfl,lt_of_some hk3,Jaa hk3 1,hL.later hb3⟩
  ·simp at hl
 have hC:∀W4:World,W4=W3.drew→Calls prog 76 #[.slice (some ⟨w.heap.size+3,0,none⟩) 2 2] W4 fun e w'=>∃A' c',e= .returned (.slice A' (L.length+1) c')∧Owned w' W3.heap.size (L.length+1) (.slice A' (L.length+1) c') ((g,ad)::L)∧Below W2.heap.size W2 w'∧Below w.heap.size w w':=fun W4 hW4=>by
  have h:=Jo4 (some ⟨w.heap.size+3,0,none⟩) 2 [[(g,ad)],L] W3.drew (hSl.keep (Below.refl _ _).drew) (by simp) (fun l hl=>by
    simp only [List.mem_cons,List.mem_nil_iff,or_false] at hl;rcases hl with rfl |rfl
    ·simp
    ·omega)
  rw [hW4];refine h.mono fun e w' ⟨A',c',e1,e2,e3⟩=>⟨A',c',?_,?_,hb23.drew.trans (e3.mono hb23.size),hb3.drew.trans (e3.mono hb3.size)⟩
  ·rw [e1];simp
  ·simpa using e2
 have s0:W2.cell? ⟨w.heap.size,0,none⟩=some (.slice A L.length c):=Jaa hs2 0;have s1:W2.cell? ⟨w.heap.size,1,none⟩=some (.int .i64 ad):=Jaa hs2 1;have gg:¬(64:Int)≤(L.length:Int):=by omega
 have ga:IntKind.i64.wrap (ad+1)=ad+1:=IntWalk.i64_in _ (by omega);rw [hWa] at hW1;rw [hW1] at hW2;have HZ3:=hid hz3;have HW2:=hid hW2;have HW3:=hid hW3;have HC:=hid hC;have HR2:=hid hr2;have HS2:=hid hs2;clear hba hb1 hb2 hb3 hs2 hr2 hu2 hk3 hb23 hu3 hone hSl hC hW1 hWa hW2 hW3 hz hz1 hz3 hL;unfold stkV;go_enter func48,ntmps48
 go_upto_region 4 with fail
 rw [←HW2.out];have HSk:Hid (∀w':World,Below W2.heap.size W2 w'→w'.cell? ⟨w.heap.size,0,none⟩=some (.slice A L.length c)∧w'.cell? ⟨w.heap.size,1,none⟩=some (.int .i64 ad)):=hid fun w' hb=>by
  have e:=(hb.block _ (lt_of_some HS2.out)).trans HS2.out;exact⟨Jaa e 0,Jaa e 1⟩
 have HSd:=hid (HSk.out _ (Below.refl W2.heap.size W2).drew);have ne1:w.heap.size+1≠w.heap.size:=by omega
 go_region_held3 (fun w'=>w'.cell? ⟨w.heap.size,0,none⟩=some (.slice A L.length c)∧w'.cell? ⟨w.heap.size,1,none⟩=some (.int .i64 ad))
  (first |with_reducible exact HSd.out |with_reducible exact HSk.out _ hb25 |go_keep)
  (first |(go_at_call 76;refine (HC.out _ (by rw [HW3.out])).mono ?_;rintro e w5 ⟨A',c',rfl,hsl5,hb25,hb5⟩;have hr5:=(hb25.block _ (lt_of_some HR2.out)).trans HR2.out;have t0:=Jaa hr5 0;have t1:=Jaa hr5 1;have v0:=Jab hr5 0;have v1:=Jab hr5 1))
 obtain⟨W6,hW6⟩:=words.nm ((w5.setCell ⟨w.heap.size+1,0,none⟩ (.slice A' (L.length+1) c')).setCell ⟨w.heap.size+1,1,none⟩ (.int .i64 (ad+1)));have h6:=over2 (u0:= .slice A' (L.length+1) c') (u1:= .int .i64 (ad+1)) hr5;have ho6:=(hsl5.store (g:=w.heap.size+1) (by have:=HZ3.out;omega) 0 (.slice A' (L.length+1) c')).store (g:=w.heap.size+1) (by have:=HZ3.out;omega) 1 (.int .i64 (ad+1));rw [←hW6] at h6 ho6 ⊢;have q0:W6.cell? ⟨w.heap.size+1,0,none⟩=some (.slice A' (L.length+1) c'):=Jaa h6 0;have q1:W6.cell? ⟨w.heap.size+1,1,none⟩=some (.int .i64 (ad+1)):=Jaa h6 1;have hb6:Below w.heap.size w W6:=by rw [hW6];exact (hb5.setCell (p:=⟨w.heap.size+1,0,none⟩) (by show w.heap.size≤w.heap.size+1;omega) _).setCell (p:=⟨w.heap.size+1,1,none⟩) (by show w.heap.size≤w.heap.size+1;omega) _
 have HE:Hid (Added ad ((g,ad)::L) w (.returned (.tuple #[.agg #[.slice A' (L.length+1) c',.int .i64 (ad+1)],.int .i64 ad,.int .i64 0])) W6):=hid ⟨A',c',rfl,ho6.base (by have:=HZ3.out;omega),hb6⟩;clear hsl5 hb25 hb5 hr5 t0 t1 v0 v1 h6 ho6 hb6 hW6 HSk HSd HC HW2 HW3 HR2 HS2 s0 s1;go_wp2_with fail
 exact bodyPost_ret (v:= .tuple #[.agg #[.slice A' (L.length+1) c',.int .i64 (ad+1)],.int .i64 ad,.int .i64 0]) (by simp [results,results48,go_sem,q0,q1]) rfl HE.out

theorem Slc.take {w:World} {B:Nat} {A:Option Addr} {c:Nat} {L:List (Nat×Int)} (h:Slc w B A c L) (i:Nat):Slc w B A c (L.take i):=
 ⟨fun j x hx=>h.rows j x (by rw [List.getElem?_take] at hx;split at hx<;>first |exact hx |cases hx),by rw [List.length_take];have:=h.cap;omega,h.max,fun e=>by obtain⟨e1,e2⟩:=h.nil e;rw [e1];exact⟨List.take_nil,e2⟩⟩
theorem Slc.drop {w:World} {B:Nat} {A:Option Addr} {c:Nat} {L:List (Nat×Int)} (h:Slc w B A c L) {i:Nat} (hi:i≤L.length):Slc w B (if c=i then A else A.map (·.add (i*2))) (c - i) (L.drop i):=by
 have hc:=h.cap;by_cases hci:c=i
 ·rw [if_pos hci]
  have hd:L.drop i=[]:=List.drop_of_length_le (by omega);rw [hd];exact⟨fun j x hx=>by simp at hx,Nat.zero_le _,by have:=h.max;omega,fun _=>⟨rfl,by omega⟩⟩
 ·rw [if_neg hci]
  rcases A with _ |⟨b,off,sp⟩
  ·obtain⟨e1,e2⟩:=h.nil rfl
   rw [e1] at hi;have hi0:i=0:=by simpa using hi
   exact absurd (by omega) hci
  ·refine⟨fun j x hx=>?_,by rw [List.length_drop];omega,by have:=h.max;omega,fun e=>by cases e⟩
   rw [List.getElem?_drop] at hx;obtain⟨b',off',h1,h2,h3,h4⟩:=h.rows (i+j) x hx;injection h1 with h1;injection h1 with e1 e2 e3;subst e1 e2 e3;refine⟨b,off+i*2,by rw [Option.map_some,add_place],h2,by rw [show off+i*2+j*2=off+(i+j)*2 by omega];exact h3,by rw [show off+i*2+j*2+1=off+(i+j)*2+1 by omega];exact h4⟩
end Go.Proofs.YtekekhgjobahaaaGreatDoor.stk

namespace Go.Proofs.YtekekhgjobahaaaGreatDoor.tre
open Go.RowKit words ext name

def BrnP (w:World) (P:Nat→Prop) (g:Nat) (L:List Ent):Prop:=
 P g∧∃A c cs,w.heap[g]?=some (.cells #[.slice A L.length c] 198 (0,0))∧(∀j v,cs[j]?=some v→∃b off,A=some ⟨b,off,none⟩∧P b∧w.cell? ⟨b,off+j,none⟩=some v)∧Ents w P cs L
theorem BrnP.keep {w w':World} {P P':Nat→Prop} {g:Nat} {L:List Ent} (h:BrnP w P g L) (hk:∀b,P b→w'.heap[b]?=w.heap[b]?∧P' b):BrnP w' P' g L:=by
 obtain⟨h1,A,c,cs,h2,h3,h4⟩:=h;refine⟨(hk g h1).2,A,c,cs,(hk g h1).1.trans h2,fun j v hj=>?_,h4.keep hk⟩;obtain⟨b,off,e1,e2,e3⟩:=h3 j v hj;exact⟨b,off,e1,(hk b e2).2,(World.cell?_of_block (hk b e2).1).trans e3⟩
theorem BrnP.brn {w:World} {P:Nat→Prop} {B g:Nat} {L:List Ent} (h:BrnP w P g L) (hP:∀b,P b→b<B):Brn w B g L:=h.keep (P':=fun b=>b<B) fun b hb=>⟨rfl,hP b hb⟩
theorem Tb.fresh {w:World} {B g m:Nat} {v:Value} {cs:List Value} {L:List Ent} {lo:Nat} (h:Tb w B g v m cs) (hlo:B≤lo) (he:Ents w (Qs w lo) cs L) (hm:m=L.length):BrnP w (fun b=>B≤b∧b<w.heap.size) g L:=by
 subst hm;obtain⟨h1,h2,h3⟩:=h;obtain⟨A,c,rfl,_,_⟩:=own_facts h3;refine⟨⟨h1,lt_of_some h2⟩,A,c,cs,h2,fun j v hj=>?_,he.keep fun b hb=>⟨rfl,Nat.le_trans hlo hb.1,hb.lt⟩⟩;obtain⟨b,cur,e1,e2,e3,_,e5⟩:=own_cell h3 hj;exact⟨b,0,e1,⟨e2,e3⟩,by rw [Nat.zero_add];exact e5⟩
def Fresh (n:Nd) (w:World) (e:Ending) (w':World):Prop:=(∃g,e= .returned (.tuple #[.pointer (some ⟨g,0,none⟩),.int .i64 0])∧BrnP w' (fun b=>w.heap.size≤b∧b<w'.heap.size) g (flatN 0 n))∧Below w.heap.size w w'
end Go.Proofs.YtekekhgjobahaaaGreatDoor.tre

namespace Go.Proofs.YtekekhgjobahaaaGreatDoor.stk
open Go.RowKit words ext name tre

def Trees (w:World) (B:Nat) (A:Option Addr) (T:List Nd) (rs:Nat→Raw):Prop:=
 ∀(i:Nat) (x:Nd),T[i]?=some x→(∃b off,A=some ⟨b,off,none⟩∧b<B∧∀(j:Nat) (v:Value),(rawCells x (rs i))[j]?=some v→w.cell? ⟨b,off+i*7+j,none⟩=some v)∧NdAt w B x (rs i)
theorem Trees.keep {w w':World} {B:Nat} {A:Option Addr} {T:List Nd} {rs:Nat→Raw} (h:Trees w B A T rs) (hb:Below B w w'):Trees w' B A T rs:=fun i x hx=>by
 obtain⟨⟨b,off,h1,h2,h3⟩,h4⟩:=h i x hx;exact⟨⟨b,off,h1,h2,fun j v hj=>(hb.cell (p:=⟨b,off+i*7+j,none⟩) h2).trans (h3 j v hj)⟩,h4.keep hb⟩
theorem Trees.later {w w':World} {A:Option Addr} {T:List Nd} {rs:Nat→Raw} (h:Trees w w.heap.size A T rs) (hb:Below w.heap.size w w'):Trees w' w'.heap.size A T rs:=fun i x hx=>by
 obtain⟨⟨b,off,h1,h2,h3⟩,h4⟩:=(h.keep hb) i x hx;exact⟨⟨b,off,h1,Nat.lt_of_lt_of_le h2 hb.size,h3⟩,h4.more hb.size⟩
def RowsP (w:World) (P:Nat→Prop) (A:Option Addr) (L:List (Nat×Int)):Prop:=
 ∀(i:Nat) (x:Nat×Int),L[i]?=some x→∃b off,A=some ⟨b,off,none⟩∧P b∧w.cell? ⟨b,off+i*2,none⟩=some (.pointer (some ⟨x.1,0,none⟩))∧w.cell? ⟨b,off+i*2+1,none⟩=some (.int .i64 x.2)
theorem RowsP.keep {w w':World} {P P':Nat→Prop} {A:Option Addr} {L:List (Nat×Int)} (h:RowsP w P A L) (hk:∀b,P b→w'.heap[b]?=w.heap[b]?∧P' b):RowsP w' P' A L:=fun i x hx=>by
 obtain⟨b,off,h1,h2,h3,h4⟩:=h i x hx;exact⟨b,off,h1,(hk b h2).2,(World.cell?_of_block (hk b h2).1).trans h3,(World.cell?_of_block (hk b h2).1).trans h4⟩
structure SlcP (w:World) (P:Nat→Prop) (A:Option Addr) (c:Nat) (L:List (Nat×Int)):Prop where
 rows:RowsP w P A L
 cap:L.length≤c
 max:c≤maxLen
 nil:A=none→L=[]∧c=0
theorem SlcP.keep {w w':World} {P P':Nat→Prop} {A:Option Addr} {c:Nat} {L:List (Nat×Int)} (h:SlcP w P A c L) (hk:∀b,P b→w'.heap[b]?=w.heap[b]?∧P' b):SlcP w' P' A c L:=⟨h.rows.keep hk,h.cap,h.max,h.nil⟩
theorem SlcP.slc {w:World} {P:Nat→Prop} {A:Option Addr} {c:Nat} {L:List (Nat×Int)} (h:SlcP w P A c L) {B:Nat} (hP:∀b,P b→b<B):Slc w B A c L:=⟨h.rows.keep (P':=fun b=>b<B) fun b hb=>⟨rfl,hP b hb⟩,h.cap,h.max,h.nil⟩
theorem Owned.slcP {w:World} {B n:Nat} {A:Option Addr} {l c:Nat} {L:List (Nat×Int)} (h:Owned w B n (.slice A l c) L):SlcP w (fun b=>B≤b∧b<w.heap.size) A c L:=by
 have hs:=h.slc.2.2;refine⟨fun i x hx=>?_,hs.cap,hs.max,hs.nil⟩;obtain⟨b,off,h1,h2,h3,h4⟩:=hs.rows i x hx;refine⟨b,off,h1,⟨?_,h2⟩,h3,h4⟩;exact (World.ownsRow.lt h b (by rw [h1];rfl)).1

def Pn (w wr:World) (b:Nat):Prop:=w.heap.size+2≤b∧b<wr.heap.size

end Go.Proofs.YtekekhgjobahaaaGreatDoor.stk

namespace Go.Proofs.YtekekhgjobahaaaGreatDoor.stk
open Go.ChangeShapes Go.WideShapes Go.RowKit words ext name tre

theorem nodes_of {H:Type} {enc:TypeId×Value→H} {W:World} {base:Nat} {spare:Nat→Bool} {held:Bool} {fuel:Nat} {a0:Option Addr} {len cap:Nat} {x:DataW H×List MemPlace}
  (h:DataW.trod enc prog W base spare held fuel 22 [.slice a0 len cap]=some x) (hs:Sized 22 x.1):
  ∃T:List Nd,T.length=len∧∃rs:Nat→Raw,Trees W W.heap.size a0 T rs∧len*112≤140737488355328∧len≤cap∧(a0=none→len=0∧cap=0):=by
 obtain⟨f1,f2,f3⟩:=Ja3 underlying22 h hs;rw [bytesNode] at f1;rcases a0 with _ |a
 ·obtain⟨rfl,_⟩:=f3 rfl
  exact⟨[],rfl,fun _=>raw0,fun i x hx=>by simp at hx,f1,f2,f3⟩
 ·obtain⟨k,_,hel⟩:=Jb2 underlying22 h hs
  have each:∀i,i<len→∃y:Nd×Raw,NdAt W W.heap.size y.1 y.2∧∀j v,(rawCells y.1 y.2)[j]?=some v→W.cell? ((a.add (i*7)).add j)=some v:=fun i hlt=>by
   obtain⟨cs,d,hcs,ht,hsd⟩:=hel i hlt;rw [cellsNode] at hcs;obtain⟨y,ry,rfl,hy⟩:=Jw3 k cs d ht hsd;obtain⟨_,_,hat⟩:=World.cells?_some hcs;exact⟨(y,ry),hy,fun j v hj=>(hat j (by have:=(Array.getElem?_eq_some_iff.1 hj).1;exact this)).trans (by rw [Array.getElem?_toList];exact hj)⟩
  obtain⟨f,hfl⟩:=Deep.choose_lt each;have at_:∀(i:Nat) (x:Nd),((List.range len).map fun i=>(f i).1)[i]?=some x→i<len∧x=(f i).1:=fun i x hx=>by
   have hlt:i<len:=by
    have:=(List.getElem?_eq_some_iff.1 hx).1;simpa using this
   rw [List.getElem?_map,List.getElem?_range hlt] at hx;exact⟨hlt,by simpa using hx.symm⟩
  refine⟨(List.range len).map fun i=>(f i).1,by simp,fun i=>(f i).2,fun i x hx=>?_,f1,f2,f3⟩;obtain⟨hlt,rfl⟩:=at_ i x hx;refine⟨?_,(hfl i hlt).1⟩;obtain⟨b,off,spot⟩:=a;have h0:=(hfl 0 (by omega)).2 0 _ rfl;have hspot:spot=none:=by simpa [Addr.add] using World.cell?_spot h0
  subst hspot;obtain⟨_,hc⟩:=hfl i hlt;simp only [add_plain] at hc;exact⟨b,off,rfl,World.block_lt_of_cell? W _ (hc 0 _ rfl),hc⟩
end Go.Proofs.YtekekhgjobahaaaGreatDoor.stk
