import Derived.Test.YtekekhgjobahaaaGreatDoorC0
import Derived.Test.YtekekhgjobahaaaGreatDoorA5
set_option maxHeartbeats 1600000
set_option maxRecDepth 100000
open Go.Lib (hid)
open Go.Proofs.Tryz
namespace Go.Proofs.YtekekhgjobahaaaGreatDoor.dca
open Go.RowKit words lru sha lrd shd

def root:ByteArray:=⟨#[47]⟩
theorem toList_inj {a b:ByteArray} (h:a.toList=b.toList):a=b:=by
 rw [ByteArray.toList_eq,ByteArray.toList_eq] at h;exact ByteArray.ext (Array.ext' h)
theorem Jq6 {a b:ByteArray} (h:a≠b):(a.toList==b.toList)=false:=by
 rw [beq_eq_false_iff_ne];exact fun e=>h (toList_inj e)
def spC (p:Int×Int):List Value:=[.int .i64 p.1,.int .i64 p.2]
def Sp (w:World) (lo:Nat) (A:Option Addr) (n:Nat) (P:List (Int×Int)):Prop:=
 n=P.length∧∀i p,P[i]?=some p→∃b off cs,A=some ⟨b,off,none⟩∧lo≤b∧w.heap[b]?=some (.cells cs 242 (0,0))∧cs[off+i*2]?=some (.int .i64 p.1)∧cs[off+i*2+1]?=some (.int .i64 p.2)
theorem Sp.nil (w:World) (lo:Nat) (A:Option Addr):Sp w lo A 0 []:=⟨rfl,fun i p h=>by simp at h⟩
theorem Sp.kept {S:TypeId→Prop} {B:Nat} {w w':World} {lo:Nat} {A:Option Addr} {n:Nat} {P:List (Int×Int)} (h:Sp w lo A n P) (hk:Kept S B w w') (hS:¬S 242):Sp w' lo A n P:=
 ⟨h.1,fun i p hp=>by
   obtain⟨b,off,cs,h1,h2,h3,h4⟩:=h.2 i p hp;exact⟨b,off,cs,h1,h2,hk.blk h3 hS,h4⟩⟩
theorem Sp.later {w w':World} {lo:Nat} {A:Option Addr} {n:Nat} {P:List (Int×Int)} (h:Sp w lo A n P) (hb:Below w.heap.size w w'):Sp w' lo A n P:=h.kept (Kept.of_below hb (fun _=>False) 0) (fun hc=>hc)
theorem Sp.mono {w:World} {lo lo':Nat} {A:Option Addr} {n:Nat} {P:List (Int×Int)} (h:Sp w lo A n P) (hl:lo'≤lo):Sp w lo' A n P:=
 ⟨h.1,fun i p hp=>by
   obtain⟨b,off,cs,h1,h2,h3⟩:=h.2 i p hp;exact⟨b,off,cs,h1,Nat.le_trans hl h2,h3⟩⟩
theorem Sp.at {w:World} {lo:Nat} {A:Option Addr} {n:Nat} {P:List (Int×Int)} (h:Sp w lo A n P) {i:Nat} {p:Int×Int} (hp:P[i]?=some p):
  ∃b off,A=some ⟨b,off,none⟩∧lo≤b∧b<w.heap.size∧w.cell? ⟨b,off+i*2,none⟩=some (.int .i64 p.1)∧w.cell? ⟨b,off+i*2+1,none⟩=some (.int .i64 p.2):=by
 obtain⟨b,off,cs,h1,h2,h3,h4,h5⟩:=h.2 i p hp;exact⟨b,off,h1,h2,lt_of_some h3,(Jaa h3 _).trans h4,(Jaa h3 _).trans h5⟩
theorem Jwx (P:List (Int×Int)):∀u∈P.flatMap spC,u.oneCell'=true:=fun u hu=>by
 obtain⟨p,_,hp⟩:=List.mem_flatMap.1 hu;simp only [spC,List.mem_cons,List.mem_nil_iff,or_false] at hp;rcases hp with rfl |rfl<;>rfl
theorem Jv0 (P:List (Int×Int)):(P.flatMap spC).length=P.length*2:=by
 induction P with
 |nil=>rfl
 |cons p L ih=>rw [List.flatMap_cons,List.length_append,ih,List.length_cons];simp [spC];omega
theorem Jhj:∀{P:List (Int×Int)} {j:Nat} {u:Value},(P.flatMap spC)[j]?=some u→∃i p,P[i]?=some p∧((j=i*2∧u= .int .i64 p.1)∨(j=i*2+1∧u= .int .i64 p.2))
 |[],j,u,h=>by simp at h
 |x::P,j,u,h=>by
  rw [List.flatMap_cons] at h;rcases j with _ |_ |j
  ·exact⟨0,x,rfl,.inl ⟨rfl,by simpa [spC] using h.symm⟩⟩
  ·exact⟨0,x,rfl,.inr ⟨rfl,by simpa [spC] using h.symm⟩⟩
  ·rw [List.getElem?_append_right (by simp [spC])] at h
   obtain⟨i,p,h1,h2⟩:=Jhj (P:=P) (j:=j) (by simpa [spC] using h);exact⟨i+1,p,by simpa using h1,h2.imp (fun⟨a,b⟩=>⟨by omega,b⟩) (fun⟨a,b⟩=>⟨by omega,b⟩)⟩
theorem Jqs:∀{P:List (Int×Int)} {i:Nat} {p:Int×Int},P[i]?=some p→(P.flatMap spC)[i*2]?=some (.int .i64 p.1)∧(P.flatMap spC)[i*2+1]?=some (.int .i64 p.2)
 |[],i,p,h=>by simp at h
 |x::P,i,p,h=>by
  rw [List.flatMap_cons];rcases i with _ |i
  ·obtain rfl:x=p:=by simpa using h
   exact⟨rfl,rfl⟩
  ·obtain⟨h1,h2⟩:=Jqs (P:=P) (i:=i) (by simpa using h)
   rw [List.getElem?_append_right (by simp [spC];omega),List.getElem?_append_right (by simp [spC];omega)];exact⟨by rw [←h1];congr 1;simp [spC];omega,by rw [←h2];congr 1;simp [spC];omega⟩
theorem Sp.of_own {w:World} {B:Nat} {A:Option Addr} {c:Nat} {P:List (Int×Int)} (h:w.ownsRow B 242 2 (.slice A P.length c) P.length (P.flatMap spC)):Sp w B A P.length P:=by
 refine⟨rfl,fun i p hp=>?_⟩;obtain⟨h1,h2⟩:=Jqs hp;have hi:i<P.length:=(List.getElem?_eq_some_iff.1 hp).1;rcases h.2 with⟨_,h0⟩ |⟨b,c',cur,hv,hB,hh,_,_,_,h4⟩
 ·omega
 ·injection hv with hv
  refine⟨b,0,cur,hv,hB,hh,?_,?_⟩
  ·rw [←h4,List.getElem?_take] at h1
   split at h1
   ·rw [←Array.getElem?_toList,Nat.zero_add];exact h1
   ·cases h1
  ·rw [←h4,List.getElem?_take] at h2
   split at h2
   ·rw [←Array.getElem?_toList,Nat.zero_add];exact h2
   ·cases h2
theorem infoSpot:(Tryz.prog.info? 242).map (fun i=>(i.zero,i.size,i.bytes))=some (some (.agg #[.int .i64 0,.int .i64 0]),2,16):=by kernel_rfl
def Spd (P:List (Int×Int)) (w:World) (e:Ending) (w':World):Prop:=(∃A c,e= .returned (.slice A P.length c)∧Sp w' w.heap.size A P.length P)∧Below w.heap.size w w'
theorem Jfj (lo:Nat) (A:Option Addr) (c:Nat) (P:List (Int×Int)) (w:World) (hp:Sp w lo A P.length P) (hl:P.length≤1000):
  Calls prog 271 #[.slice A P.length c] w (Spd P w):=by
 obtain⟨i0,hi,hz0,hz1,hz2⟩:=info_three infoSpot;rcases A with _ |ad
 ·have hP:P=[]:=by
   rcases P with _ |⟨p,P⟩
   ·rfl
   ·obtain⟨b,off,h1,_⟩:=hp.at (i:=0) (p:=p) rfl
    cases h1
  subst hP;have heq0:=fun wx=>Lib.run_eql_slice_nil (P:=prog) wx 244 242 none 0 c 0 0 underlying244;clear hp hl hz0 hz1 hz2 hi;go_enter func271,ntmps271
  go_wp2_with fail
  go_ret
  exact⟨⟨none,0,rfl,Sp.nil _ _ _⟩,Below.refl _ _⟩
 ·have heq:=fun wx=>Lib.run_eql_slice_nil (P:=prog) wx 244 242 (some ad) P.length c 0 0 underlying244
  have hnews:Hid (∀j u,(P.flatMap spC)[j]?=some u→(w.alloc (.cells #[] 242)).cell? (ad.add j)=some u):=hid fun j u hu=>by
   obtain⟨i,p,hip,hj⟩:=Jhj hu;obtain⟨b,off,hA,_,hB,hc1,hc2⟩:=hp.at hip;injection hA with hA;subst hA;rw [add_place];have hbl:=(Below.refl w.heap.size w).alloc (Nat.le_refl _) (.cells #[] 242);rcases hj with⟨rfl,rfl⟩ |⟨rfl,rfl⟩
   ·exact (hbl.cell (p:=⟨b,off+i*2,none⟩) hB).trans hc1
   ·rw [←Nat.add_assoc]
    exact (hbl.cell (p:=⟨b,off+i*2+1,none⟩) hB).trans hc2
  have HOne:=hid (Jwx P);have HLen:=hid (Jv0 P);clear hp;go_enter func271,ntmps271
  go_wp2_with (at_builtin;refine wpList_append_own _ rfl (.tmp 5) (.tmp 6) 244 rfl w.heap.size 242 i0 _ 2 16 underlying244 hi hz0 hz1 hz2 rfl (by omega) (.slice (some ⟨w.heap.size,0,none⟩) 0 0) 0 [] rfl (World.ownsRow_made w #[] 0 (Nat.le_refl _) (by decide) rfl) ad P.length c (P.flatMap spC) rfl HLen.out hnews.out HOne.out (by simp only [maxLen];omega) (by omega) (by simp) ?_;intro v4 w4 hown4 hgrow hnil4)
  rw [Nat.zero_add,List.nil_append] at hown4;obtain⟨A4,c4,rfl,h1,h2,_⟩:=own_facts hown4;have HO4:=hid hown4;have HB4:=hid (keep_grown (S:=w.heap.size) ((Below.refl w.heap.size w).alloc (Nat.le_refl _) (.cells #[] 242)) (World.ownsRow_made w #[] 0 (Nat.le_refl _) (by decide) rfl:(w.alloc (.cells #[] 242)).ownsRow w.heap.size 242 2 _ 0 []) hgrow (Nat.le_refl _) (Nat.le_refl _));clear hown4 hgrow hnil4;go_wp2_with fail
  go_ret
  exact⟨⟨A4,c4,rfl,Sp.of_own HO4.out⟩,HB4.out⟩

def moved (x:Ent) (A:Option Addr) (c:Nat):Ent:={x with da:=A,dc:=c}

theorem below_drewN (w:World) (n:Nat):Below w.heap.size w (w.drewN n):=⟨rfl,rfl,rfl,Nat.le_refl _,fun _ _=>rfl⟩
def gsOf (C:List Cc):List Nat:=C.map (·.g)
theorem Jl8 (gs:List Nat) (r:Nat):gsOf (news gs r)=gs:=by
 unfold gsOf news;rw [List.map_map];exact List.map_id' gs
theorem Jrk {C:List Cc} {i:Nat} {c:Cc} (h:C[i]?=some c) (bo:Option Nat) (L:List (ByteArray×Ent)):gsOf (C.set i ⟨c.g,bo,c.r,L⟩)=gsOf C:=by
 unfold gsOf;rw [List.map_set];apply List.ext_getElem?;intro j;rw [List.getElem?_set];split
 ·rename_i e
  subst e;split
  ·rw [List.getElem?_map,h];rfl
  ·rename_i hlt
   rw [List.getElem?_eq_none (by omega)]
 ·rfl
structure Dc (w:World) (B q h:Nat) (C:List Cc) (x y:Int):Prop where
 lo:B≤q
 blk:w.heap[q]?=some (.cells #[ptrC h,.int .i64 x,.int .i64 y] 250 (0,0))
 shd:Shd w B h (gsOf C)
 fam:Fam w B C
def DS (t:TypeId):Prop:=t=301∨t=447∨t=250
theorem Dc.kept {S:TypeId→Prop} {B':Nat} {w w':World} {B q h:Nat} {C:List Cc} {x y:Int} (d:Dc w B q h C x y) (hk:Kept S B' w w') (h0:¬S 250) (h1:¬S 277) (h2:¬S 278) (h3:¬S 301) (h4:¬S 447):Dc w' B q h C x y:=
 ⟨d.lo,hk.blk d.blk h0,d.shd.kept hk h1 h2,d.fam.kept hk h3 h4⟩
theorem Dc.later {w w':World} {B q h:Nat} {C:List Cc} {x y:Int} (d:Dc w B q h C x y) (hb:Below w.heap.size w w'):Dc w' B q h C x y:=
 d.kept (Kept.of_below hb (fun _=>False) 0) (fun hc=>hc) (fun hc=>hc) (fun hc=>hc) (fun hc=>hc) (fun hc=>hc)
theorem LS.ds {t:TypeId} (h:LS t):DS t:=h.imp_right .inl
theorem Dc.left {w w':World} {B q h i:Nat} {C:List Cc} {c:Cc} {x y:Int} {L':List (ByteArray×Ent)} (d:Dc w B q h C x y) (hi:C[i]?=some c) (hl:lrd.Left w B c.g c.r c.bo L' w') (hok:Ok L' c.r):
  (∃bo',Dc w' B q h (C.set i ⟨c.g,bo',c.r,L'⟩) x y)∧Kept LS B w w':=by
 have hk:=d.fam.left_kept hi hl;obtain⟨bo',hf⟩:=d.fam.left hi hl hok;refine⟨⟨bo',d.lo,hk.blk d.blk (by unfold LS;decide),?_,hf⟩,hk⟩;rw [Jrk hi];exact d.shd.kept hk (by unfold LS;decide) (by unfold LS;decide)
theorem Dc.count {w:World} {B q h:Nat} {C:List Cc} {x y:Int} (d:Dc w B q h C x y) (j:Nat) (u:Value) {x' y':Int} (hj:(#[ptrC h,.int .i64 x,.int .i64 y]:Array Value).setIfInBounds j u=#[ptrC h,.int .i64 x',.int .i64 y']):
  Dc (w.setCell ⟨q,j,none⟩ u) B q h C x' y'∧Kept (fun t=>t=250) B w (w.setCell ⟨q,j,none⟩ u):=by
 have hk:Kept (fun t=>t=250) B w (w.setCell ⟨q,j,none⟩ u):=(Kept.refl (fun t=>t=250) _ _).setCell (p:=⟨q,j,none⟩) d.lo ⟨_,_,_,d.blk,rfl⟩ u;refine⟨⟨d.lo,?_,d.shd.kept hk (by decide) (by decide),d.fam.kept hk (by decide) (by decide)⟩,hk⟩;rw [←hj];exact heap_setCell_same w q j _ _ u d.blk

def NewD (w:World) (n r:Nat) (e:Ending) (w':World):Prop:=∃(q h:Nat) (gs:List Nat),e= .returned (.pointer (some ⟨q,0,none⟩))∧gs.length=n∧Dc w' w.heap.size q h (news gs r) 0 0∧Below w.heap.size w w'
theorem dnew_any (n r:Nat) (many room:Int) (w:World) (hn:(n:Int)=min (max many 1) 256) (hr:(r:Int)=max room 1):
  Calls prog 121 #[.int .i64 many,.int .i64 room] w (NewD w n r):=by
 have HC:=hid (snew_any n r many room w hn hr);clear hn hr;go_enter func121,ntmps121
 go_wp2_with fail
 refine HC.out.mono ?_;rintro e w1 ⟨rfl,gs,hgl,hs,hf,hb⟩;obtain⟨W2,hW2⟩:=words.nm (w1.alloc (.cells #[ptrC w.heap.size,.int .i64 0,.int .i64 0] 250));have hb2:Below w1.heap.size w1 W2:=words.b1 hW2;have hk2:W2.heap[w1.heap.size]?=some (.cells #[ptrC w.heap.size,.int .i64 0,.int .i64 0] 250 (0,0)):=by rw [hW2];exact heap_alloc_new w1 _
 have HE:Hid (NewD w n r (.returned (.pointer (some ⟨w1.heap.size,0,none⟩))) W2):=hid ⟨_,_,gs,rfl,hgl,⟨hb.size,hk2,by rw [Jl8];exact hs.later hb2,hf.later hb2⟩,hb.trans (hb2.mono hb.size)⟩;rw [hW2] at HE;unfold ptrC at HE;clear hgl hs hf hb hb2 hk2 hW2;go_wp2_with fail
 go_ret
 exact HE.out
end Go.Proofs.YtekekhgjobahaaaGreatDoor.dca
