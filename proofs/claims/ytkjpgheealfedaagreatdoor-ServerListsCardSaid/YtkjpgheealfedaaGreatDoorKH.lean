import Derived.Test.YtkjpgheealfedaaGreatDoorKF
import Derived.Shelf.Abstract
set_option maxHeartbeats 6400000
set_option maxRecDepth 100000
open Go.Lib (hid)
open Go.Proofs.Tryz
namespace Go.Proofs.YtkjpgheealfedaaGreatDoor.lca
open Go.RowKit words lru sha lrl shl

theorem below_drewN (w:World) (n:Nat):Below w.heap.size w (w.drewN n):=⟨rfl,rfl,rfl,Nat.le_refl _,fun _ _=>rfl⟩
def enC (p:ByteArray×Int):List Value:=[.string p.1,.int .i64 p.2]
theorem Jn0 (P:List (ByteArray×Int)):∀u∈P.flatMap enC,u.oneCell'=true:=fun u hu=>by
 obtain⟨p,_,hp⟩:=List.mem_flatMap.1 hu;simp only [enC,List.mem_cons,List.mem_nil_iff,or_false] at hp;rcases hp with rfl |rfl<;>rfl
theorem Jot (P:List (ByteArray×Int)):(P.flatMap enC).length=P.length*2:=by
 induction P with
 |nil=>rfl
 |cons p L ih=>rw [List.flatMap_cons,List.length_append,ih,List.length_cons];simp [enC];omega
theorem Joi:∀{P:List (ByteArray×Int)} {i:Nat} {p:ByteArray×Int},P[i]?=some p→(P.flatMap enC)[i*2]?=some (.string p.1)∧(P.flatMap enC)[i*2+1]?=some (.int .i64 p.2)
 |[],i,p,h=>by simp at h
 |x::P,i,p,h=>by
  rw [List.flatMap_cons];rcases i with _ |i
  ·obtain rfl:x=p:=by simpa using h
   exact⟨rfl,rfl⟩
  ·obtain⟨h1,h2⟩:=Joi (P:=P) (i:=i) (by simpa using h)
   rw [List.getElem?_append_right (by simp [enC];omega),List.getElem?_append_right (by simp [enC];omega)];exact⟨by rw [←h1];congr 1;simp [enC];omega,by rw [←h2];congr 1;simp [enC];omega⟩
def Enr (w:World) (B:Nat) (v:Value) (l:List (ByteArray×Int)):Prop:=w.ownsRow B 55 2 v l.length (l.flatMap enC)
theorem Enr.nil (w:World) (B:Nat):Enr w B (.slice none 0 0) []:=World.ownsRow_nil _ _ _ _
theorem Enr.kept {S:TypeId→Prop} {B':Nat} {w w':World} {B:Nat} {v:Value} {l:List (ByteArray×Int)} (h:Enr w B v l) (hk:Kept S B' w w') (hS:¬S 55):Enr w' B v l:=hk.own h hS
theorem Enr.later {w w':World} {B:Nat} {v:Value} {l:List (ByteArray×Int)} (h:Enr w B v l) (hb:Below w.heap.size w w'):Enr w' B v l:=h.kept (Kept.of_below hb (fun _=>False) 0) (fun hc=>hc)
theorem Enr.mono {w:World} {B B':Nat} {v:Value} {l:List (ByteArray×Int)} (h:Enr w B v l) (hB:B'≤B):Enr w B' v l:=Jdt h hB
theorem Enr.lt {w:World} {B:Nat} {v:Value} {l:List (ByteArray×Int)} (h:Enr w B v l):∀b,v.ownBlock=some b→B≤b∧b<w.heap.size:=fun b hb=>World.ownsRow.lt h b hb
theorem Enr.at {w:World} {B c:Nat} {A:Option Addr} {l:List (ByteArray×Int)} (h:Enr w B (.slice A l.length c) l) {i:Nat} {p:ByteArray×Int} (hp:l[i]?=some p):
  ∃b,A=some ⟨b,0,none⟩∧b<w.heap.size∧w.cell? ⟨b,i*2,none⟩=some (.string p.1)∧w.cell? ⟨b,i*2+1,none⟩=some (.int .i64 p.2):=by
 obtain⟨h1,h2⟩:=Joi hp;obtain⟨g,c',hv,_,hlt,hc⟩:=Jkt h h1;obtain⟨g',c'',hv',_,_,hc'⟩:=Jkt h h2;injection hv with hv;injection hv' with hv';subst hv;injection hv' with hv';injection hv' with hv';subst hv';exact⟨g,rfl,hlt,hc,hc'⟩
theorem infoEn:(Tryz.prog.info? 55).map (fun i=>(i.zero,i.size,i.bytes))=some (some (.agg #[.string ⟨#[]⟩,.int .i64 0]),2,24):=by kernel_rfl
theorem Jg1:∀{P:List (ByteArray×Int)} {j:Nat} {u:Value},(P.flatMap enC)[j]?=some u→∃i p,P[i]?=some p∧((j=i*2∧u= .string p.1)∨(j=i*2+1∧u= .int .i64 p.2))
 |[],j,u,h=>by simp at h
 |x::P,j,u,h=>by
  rw [List.flatMap_cons] at h;rcases j with _ |_ |j
  ·exact⟨0,x,rfl,.inl ⟨rfl,by simpa [enC] using h.symm⟩⟩
  ·exact⟨0,x,rfl,.inr ⟨rfl,by simpa [enC] using h.symm⟩⟩
  ·rw [List.getElem?_append_right (by simp [enC])] at h
   obtain⟨i,p,h1,h2⟩:=Jg1 (P:=P) (j:=j) (by simpa [enC] using h);exact⟨i+1,p,by simpa using h1,h2.imp (fun⟨a,b⟩=>⟨by omega,b⟩) (fun⟨a,b⟩=>⟨by omega,b⟩)⟩
def Enrd (l:List (ByteArray×Int)) (w:World) (e:Ending) (w':World):Prop:=(∃A c,e= .returned (.slice A l.length c)∧Enr w' w.heap.size (.slice A l.length c) l)∧Below w.heap.size w w'
theorem Jc4 (lo:Nat) (A:Option Addr) (c:Nat) (P:List (ByteArray×Int)) (w:World) (hp:Enr w lo (.slice A P.length c) P) (hl:P.length≤1000000):
  Calls prog 79 #[.slice A P.length c] w (Enrd P w):=by
 obtain⟨i0,hi,hz0,hz1,hz2⟩:=Jap infoEn;rcases A with _ |ad
 ·have hP:P=[]:=by
   rcases P with _ |⟨p,P⟩
   ·rfl
   ·obtain⟨b,h1,_⟩:=hp.at (i:=0) (p:=p) rfl
    cases h1
  subst hP;have heq0:=fun wx=>Lib.run_eql_slice_nil (P:=prog) wx 52 55 none 0 c 0 0 underlying52;clear hp hl hz0 hz1 hz2 hi;go_enter func79,ntmps79
  go_wp2_with fail
  go_ret
  exact⟨⟨none,0,rfl,Enr.nil _ _⟩,Below.refl _ _⟩
 ·have heq:=fun wx=>Lib.run_eql_slice_nil (P:=prog) wx 52 55 (some ad) P.length c 0 0 underlying52
  have hnews:Hid (∀j u,(P.flatMap enC)[j]?=some u→(w.alloc (.cells #[] 55)).cell? (ad.add j)=some u):=hid fun j u hu=>by
   obtain⟨i,p,hip,hj⟩:=Jg1 hu;obtain⟨b,hA,hB,hc1,hc2⟩:=hp.at hip;injection hA with hA;subst hA;rw [Jas];have hbl:=(Below.refl w.heap.size w).alloc (Nat.le_refl _) (.cells #[] 55);rcases hj with⟨rfl,rfl⟩ |⟨rfl,rfl⟩
   ·rw [Nat.zero_add]
    exact (hbl.cell (p:=⟨b,i*2,none⟩) hB).trans hc1
   ·rw [Nat.zero_add]
    exact (hbl.cell (p:=⟨b,i*2+1,none⟩) hB).trans hc2
  have HOne:=hid (Jn0 P);have HLen:=hid (Jot P);clear hp;go_enter func79,ntmps79
  go_wp2_with (at_builtin;refine wpList_append_own _ rfl (.tmp 5) (.tmp 6) 52 rfl w.heap.size 55 i0 _ 2 24 underlying52 hi hz0 hz1 hz2 rfl (by omega) (.slice (some ⟨w.heap.size,0,none⟩) 0 0) 0 [] rfl (World.ownsRow_made w #[] 0 (Nat.le_refl _) (by decide) rfl) ad P.length c (P.flatMap enC) rfl HLen.out hnews.out HOne.out (by simp only [maxLen];omega) (by omega) (by simp) ?_;intro v4 w4 hown4 hgrow hnil4)
  rw [Nat.zero_add,List.nil_append] at hown4;obtain⟨A4,c4,rfl,h1,h2,_⟩:=own_facts hown4;have HO4:=hid hown4;have HB4:=hid (Jad (S:=w.heap.size) ((Below.refl w.heap.size w).alloc (Nat.le_refl _) (.cells #[] 55)) (World.ownsRow_made w #[] 0 (Nat.le_refl _) (by decide) rfl:(w.alloc (.cells #[] 55)).ownsRow w.heap.size 55 2 _ 0 []) hgrow (Nat.le_refl _) (Nat.le_refl _));clear hown4 hgrow hnil4;go_wp2_with fail
  go_ret
  exact⟨⟨A4,c4,rfl,HO4.out⟩,HB4.out⟩

def gsOf (C:List Cc):List Nat:=C.map (·.g)
def nsOf (C:List Cc):List Nat:=C.map (·.L.length)
theorem Jjt (gs:List Nat) (r:Nat):gsOf (news gs r)=gs:=by
 unfold gsOf news;rw [List.map_map];exact List.map_id' gs
theorem Joz {C:List Cc} {i:Nat} {c:Cc} (h:C[i]?=some c) (bo:Option Nat) (L:List (ByteArray×Lst)):gsOf (C.set i ⟨c.g,bo,c.r,L⟩)=gsOf C:=by
 unfold gsOf;rw [List.map_set];apply List.ext_getElem?;intro j;rw [List.getElem?_set];split
 ·rename_i e
  subst e;split
  ·rw [List.getElem?_map,h];rfl
  ·rename_i hlt
   rw [List.getElem?_eq_none (by omega)]
 ·rfl
theorem Jfy {C:List Cc} {i:Nat} {c:Cc} (h:C[i]?=some c):(gsOf C)[i]?=some c.g:=by unfold gsOf;rw [List.getElem?_map,h];rfl
theorem gs_len (C:List Cc):(gsOf C).length=C.length:=by unfold gsOf;rw [List.length_map]
structure Lc (w:World) (B q h:Nat) (C:List Cc) (x:Int):Prop where
 lo:B≤q
 blk:w.heap[q]?=some (.cells #[ptrC h,.int .i64 x] 120 (0,0))
 shd:Shd w B h (gsOf C)
 fam:Fam w B C
def DS (t:TypeId):Prop:=t=225∨t=270∨t=120
theorem Lc.kept {S:TypeId→Prop} {B':Nat} {w w':World} {B q h:Nat} {C:List Cc} {x:Int} (d:Lc w B q h C x) (hk:Kept S B' w w') (h0:¬S 120) (h1:¬S 173) (h2:¬S 174) (h3:¬S 225) (h4:¬S 270):Lc w' B q h C x:=
 ⟨d.lo,hk.blk d.blk h0,d.shd.kept hk h1 h2,d.fam.kept hk h3 h4⟩
theorem Lc.later {w w':World} {B q h:Nat} {C:List Cc} {x:Int} (d:Lc w B q h C x) (hb:Below w.heap.size w w'):Lc w' B q h C x:=
 d.kept (Kept.of_below hb (fun _=>False) 0) (fun hc=>hc) (fun hc=>hc) (fun hc=>hc) (fun hc=>hc) (fun hc=>hc)
theorem keptWider {S S':TypeId→Prop} {B:Nat} {w w':World} (h:Kept S B w w') (hs:∀t,S t→S' t):Kept S' B w w':=
 ⟨h.os,h.tape,h.output,h.size,fun k hk hc=>h.block k hk (hc.imp_right fun hc cs t f he hS=>hc cs t f he (hs t hS))⟩
theorem LS.ds {t:TypeId} (h:LS t):DS t:=h.imp_right .inl
theorem Lc.left {w w':World} {B q h i:Nat} {C:List Cc} {c:Cc} {x:Int} {L':List (ByteArray×Lst)} (d:Lc w B q h C x) (hi:C[i]?=some c) (hl:lrl.Left w B c.g c.r c.bo L' w') (hok:Ok L' c.r):
  (∃bo',Lc w' B q h (C.set i ⟨c.g,bo',c.r,L'⟩) x)∧Kept LS B w w':=by
 have hk:=d.fam.left_kept hi hl;obtain⟨bo',hf⟩:=d.fam.left hi hl hok;refine⟨⟨bo',d.lo,hk.blk d.blk (by unfold LS;decide),?_,hf⟩,hk⟩;rw [Joz hi];exact d.shd.kept hk (by unfold LS;decide) (by unfold LS;decide)
theorem Lc.count {w:World} {B q h:Nat} {C:List Cc} {x:Int} (d:Lc w B q h C x) (x':Int):
  Lc (w.setCell ⟨q,1,none⟩ (.int .i64 x')) B q h C x'∧Kept (fun t=>t=120) B w (w.setCell ⟨q,1,none⟩ (.int .i64 x')):=by
 have hk:Kept (fun t=>t=120) B w (w.setCell ⟨q,1,none⟩ (.int .i64 x')):=(Kept.refl (fun t=>t=120) _ _).setCell (p:=⟨q,1,none⟩) d.lo ⟨_,_,_,d.blk,rfl⟩ _;refine⟨⟨d.lo,?_,d.shd.kept hk (by decide) (by decide),d.fam.kept hk (by decide) (by decide)⟩,hk⟩;exact heap_setCell_same w q 1 _ _ _ d.blk

def NewL (w:World) (n r:Nat) (e:Ending) (w':World):Prop:=∃(q h:Nat) (gs:List Nat),e= .returned (.pointer (some ⟨q,0,none⟩))∧gs.length=n∧Lc w' w.heap.size q h (news gs r) 0∧Below w.heap.size w w'
theorem lnew_any (n r:Nat) (many room:Int) (w:World) (hn:(n:Int)=min (max many 1) 256) (hr:(r:Int)=max room 1):
  Calls prog 34 #[.int .i64 many,.int .i64 room] w (NewL w n r):=by
 have HC:=hid (snew_any n r many room w hn hr);clear hn hr;go_enter func34,ntmps34
 go_wp2_with fail
 refine HC.out.mono ?_;rintro e w1 ⟨rfl,gs,hgl,hs,hf,hb⟩;obtain⟨W2,hW2⟩:=words.nm (w1.alloc (.cells #[ptrC w.heap.size,.int .i64 0] 120));have hb2:Below w1.heap.size w1 W2:=words.b1 hW2;have hk2:W2.heap[w1.heap.size]?=some (.cells #[ptrC w.heap.size,.int .i64 0] 120 (0,0)):=by rw [hW2];exact heap_alloc_new w1 _
 have HE:Hid (NewL w n r (.returned (.pointer (some ⟨w1.heap.size,0,none⟩))) W2):=hid ⟨_,_,gs,rfl,hgl,⟨hb.size,hk2,by rw [Jjt];exact hs.later hb2,hf.later hb2⟩,hb.trans (hb2.mono hb.size)⟩;rw [hW2] at HE;unfold ptrC at HE;clear hgl hs hf hb hb2 hk2 hW2;go_wp2_with fail
 go_ret
 exact HE.out
theorem made_any (B q h:Nat) (C:List Cc) (x:Int) (w:World) (d:Lc w B q h C x):
  Calls prog 41 #[.pointer (some ⟨q,0,none⟩)] w fun e w'=>e= .returned (.int .i64 x)∧w=w':=by
 have c1:=Jaa d.blk 1;clear d;go_enter func41,ntmps41
 go_wp2_with fail
 go_ret
 exact⟨rfl,rfl⟩
theorem Jjp {gs:List Nat} {r i g:Nat} (h:gs[i]?=some g):(news gs r)[i]?=some ⟨g,none,r,[]⟩:=by unfold news;rw [List.getElem?_map,h];rfl
theorem Jfg (gs:List Nat) (r:Nat):(news gs r).length=gs.length:=by unfold news;rw [List.length_map]
theorem Jp0 {w:World} {B:Nat} {C:List Cc} (h:Fam w B C):Held w B (gsOf C) (nsOf C):=by
 refine⟨by simp [gsOf,nsOf],fun i g hg=>?_⟩;unfold gsOf at hg;rw [List.getElem?_map] at hg;rcases hc:C[i]? with _ |c
 ·rw [hc] at hg;cases hg
 ·rw [hc] at hg
  injection hg with hg;subst hg;exact⟨c.bo,c.r,c.L,h.lru i c hc,by unfold nsOf;rw [List.getElem?_map,hc];rfl⟩
theorem lmost_any (B q h:Nat) (C:List Cc) (x:Int) (w:World) (d:Lc w B q h C x) (h2:C.length≤256):
  Calls prog 43 #[.pointer (some ⟨h,0,none⟩)] w fun e w'=>e= .returned (.int .i64 (mostF (nsOf C):Int))∧w=w':=
 most_any B h (gsOf C) (nsOf C) w d.shd (by rw [gs_len];exact h2) (Jp0 d.fam)
theorem lof_any (B q h:Nat) (C:List Cc) (x:Int) (k:ByteArray) (w:World) (d:Lc w B q h C x) (h1:0<C.length) (h2:C.length≤256) (hk:k.size≤1000000):
  Calls prog 45 #[.pointer (some ⟨h,0,none⟩),.string k] w fun e w'=>e= .returned (.int .i64 (ofF k C.length:Int))∧∃n,w'=w.drewN n:=by
 have:=of_any B h (gsOf C) k w d.shd (by rw [gs_len];exact h1) (by rw [gs_len];exact h2) (by omega);rw [gs_len] at this;exact this
theorem look_no (B q h i:Nat) (c:Cc) (C:List Cc) (x epoch:Int) (k:ByteArray) (w:World) (d:Lc w B q h C x) (h1:0<C.length) (h2:C.length≤256) (hki:i=ofF k C.length) (hi:C[i]?=some c) (hlen:c.L.length≤900) (hk:k.size≤1000000) (hno:lrl.gotB c.L k=false∨(lrl.gotI c.L k).ep≠epoch):
  Calls prog 76 #[.pointer (some ⟨q,0,none⟩),.int .i64 epoch,.string k] w fun e w'=>e= .returned (.tuple #[.slice none 0 0,.bool false])∧(∃bo',Lc w' B q h (C.set i ⟨c.g,bo',c.r,getL c.L k⟩) x)∧Kept LS B w w':=by
 obtain⟨xe,hxe⟩:=words.nm (lrl.gotI c.L k);obtain⟨gb,hgb⟩:=words.nm (lrl.gotB c.L k);rw [←hxe,←hgb] at hno;have hks:k.size≤9223372036854775807:=by omega
 have HG:Hid (Calls prog 110 #[.pointer (some ⟨h,0,none⟩),.string k] w fun e w'=>e= .returned (.tuple #[.agg #[.int .i64 xe.ep,.slice xe.a xe.n xe.c],.bool gb])∧lrl.Left w B c.g c.r c.bo (getL c.L k) w'):=hid (by
   have:=Jbj B h c.g (gsOf C) c.bo c.r c.L k w d.shd (by rw [gs_len];exact h1) (by rw [gs_len];exact h2) hks (by rw [gs_len,←hki];exact Jfy hi) (d.fam.lru i c hi) (d.fam.ok i c hi) (by omega);unfold lrl.Got at this;rw [←hxe,←hgb] at this;exact this)
 have HLF:Hid (∀w2:World,lrl.Left w B c.g c.r c.bo (getL c.L k) w2→(∃bo',Lc w2 B q h (C.set i ⟨c.g,bo',c.r,getL c.L k⟩) x)∧Kept LS B w w2):=hid fun w2 h2=>d.left hi h2 ((d.fam.ok i c hi).get k);have c0:=Jaa d.blk 0;unfold ptrC at c0;clear hki hk hks hxe hgb d hi hlen h1 h2;rcases hgb:gb with _ |_
 ·clear hno
  subst hgb;go_enter func76,ntmps76
  go_wp2_with fail
  refine HG.out.mono ?_;rintro en w2 ⟨rfl,hl2⟩;obtain⟨⟨bo',d2⟩,hk2⟩:=HLF.out w2 hl2;obtain⟨W3,hW3⟩:=words.nm (w2.alloc (.cells #[.int .i64 xe.ep,.slice xe.a xe.n xe.c] 122));have hb3:Below w2.heap.size w2 W3:=words.b1 hW3;have hx3:W3.heap[w2.heap.size]?=some (.cells #[.int .i64 xe.ep,.slice xe.a xe.n xe.c] 122 (0,0)):=by rw [hW3];exact heap_alloc_new w2 _
  have d3:=d2.later hb3;have hk3:Kept LS B w W3:=hk2.trans (Kept.of_below hb3 LS B);have o0:=Jaa hx3 0;have o1:=Jaa hx3 1;have HD3:=hid d3;have HK3:=hid hk3;have HW3:=hid hW3;clear hl2 d2 hk2 hb3 hx3 d3 hk3 hW3 c0;go_upto_region 2 with fail
  rw [←HW3.out];go_wp2_with fail
  go_ret2
  exact⟨rfl,⟨bo',HD3.out⟩,HK3.out⟩
 ·have hep:(xe.ep !=epoch)=true:=by
   rcases hno with hno |hno
   ·rw [hgb] at hno;cases hno
   ·simpa using hno
  clear hno;subst hgb;go_enter func76,ntmps76
  go_wp2_with fail
  refine HG.out.mono ?_;rintro en w2 ⟨rfl,hl2⟩;obtain⟨⟨bo',d2⟩,hk2⟩:=HLF.out w2 hl2;obtain⟨W3,hW3⟩:=words.nm (w2.alloc (.cells #[.int .i64 xe.ep,.slice xe.a xe.n xe.c] 122));have hb3:Below w2.heap.size w2 W3:=words.b1 hW3;have hx3:W3.heap[w2.heap.size]?=some (.cells #[.int .i64 xe.ep,.slice xe.a xe.n xe.c] 122 (0,0)):=by rw [hW3];exact heap_alloc_new w2 _
  have d3:=d2.later hb3;have hk3:Kept LS B w W3:=hk2.trans (Kept.of_below hb3 LS B);have o0:=Jaa hx3 0;have o1:=Jaa hx3 1;have HD3:=hid d3;have HK3:=hid hk3;have HW3:=hid hW3;clear hl2 d2 hk2 hb3 hx3 d3 hk3 hW3 c0;go_upto_region 2 with fail
  rw [←HW3.out];go_wp2_with fail
  go_ret2
  exact⟨rfl,⟨bo',HD3.out⟩,HK3.out⟩
theorem look_yes (B q h i:Nat) (c:Cc) (C:List Cc) (x epoch:Int) (k:ByteArray) (w:World) (d:Lc w B q h C x) (h1:0<C.length) (h2:C.length≤256) (hki:i=ofF k C.length) (hi:C[i]?=some c) (hlen:c.L.length≤900) (hk:k.size≤1000000) (lo:Nat) (l:List (ByteArray×Int)) (hl:l.length≤1000000) (hno:lrl.gotB c.L k=true∧(lrl.gotI c.L k).ep=epoch∧(lrl.gotI c.L k).n=l.length∧Enr w lo (.slice (lrl.gotI c.L k).a l.length (lrl.gotI c.L k).c) l):
  Calls prog 76 #[.pointer (some ⟨q,0,none⟩),.int .i64 epoch,.string k] w fun e w'=>∃(A:Option Addr) (c':Nat),e= .returned (.tuple #[.slice A l.length c',.bool true])∧Enr w' w.heap.size (.slice A l.length c') l∧(∃bo',Lc w' B q h (C.set i ⟨c.g,bo',c.r,getL c.L k⟩) x)∧Kept LS B w w':=by
 obtain⟨xe,hxe⟩:=words.nm (lrl.gotI c.L k);obtain⟨gb,hgb⟩:=words.nm (lrl.gotB c.L k);rw [←hxe,←hgb] at hno;have hks:k.size≤9223372036854775807:=by omega
 have HG:Hid (Calls prog 110 #[.pointer (some ⟨h,0,none⟩),.string k] w fun e w'=>e= .returned (.tuple #[.agg #[.int .i64 xe.ep,.slice xe.a xe.n xe.c],.bool gb])∧lrl.Left w B c.g c.r c.bo (getL c.L k) w'):=hid (by
   have:=Jbj B h c.g (gsOf C) c.bo c.r c.L k w d.shd (by rw [gs_len];exact h1) (by rw [gs_len];exact h2) hks (by rw [gs_len,←hki];exact Jfy hi) (d.fam.lru i c hi) (d.fam.ok i c hi) (by omega);unfold lrl.Got at this;rw [←hxe,←hgb] at this;exact this)
 have HLF:Hid (∀w2:World,lrl.Left w B c.g c.r c.bo (getL c.L k) w2→(∃bo',Lc w2 B q h (C.set i ⟨c.g,bo',c.r,getL c.L k⟩) x)∧Kept LS B w w2):=hid fun w2 h2=>d.left hi h2 ((d.fam.ok i c hi).get k);have c0:=Jaa d.blk 0;unfold ptrC at c0;obtain⟨hgt,hep0,hn,hen⟩:=hno;have hep:(xe.ep !=epoch)=false:=by simpa using hep0
 subst hgt;rw [hn] at HG;have HL:=hid hl;have HEN:=hid hen;clear hki hk hks hxe hgb d hi hlen h1 h2 hl hep0 hen;go_enter func76,ntmps76
 go_wp2_with fail
 refine HG.out.mono ?_;rintro en w2 ⟨rfl,hl2⟩;obtain⟨⟨bo',d2⟩,hk2⟩:=HLF.out w2 hl2;obtain⟨W3,hW3⟩:=words.nm (w2.alloc (.cells #[.int .i64 xe.ep,.slice xe.a l.length xe.c] 122));have hb3:Below w2.heap.size w2 W3:=words.b1 hW3;have hx3:W3.heap[w2.heap.size]?=some (.cells #[.int .i64 xe.ep,.slice xe.a l.length xe.c] 122 (0,0)):=by rw [hW3];exact heap_alloc_new w2 _
 have d3:=d2.later hb3;have hk3:Kept LS B w W3:=hk2.trans (Kept.of_below hb3 LS B);have o0:=Jaa hx3 0;have o1:=Jaa hx3 1;have HD3:=hid d3;have HK3:=hid hk3;have HW3:=hid hW3;clear hl2 d2 hk2 hb3 hx3 d3 hk3 hW3 c0;go_upto_region 2 with fail
 rw [←HW3.out];have HC:=hid (Jc4 lo xe.a xe.c l W3 (HEN.out.kept HK3.out (by unfold LS;decide)) HL.out);clear hn;go_wp2_with fail
 refine HC.out.mono ?_;rintro e w4 ⟨⟨A,c',rfl,he4⟩,hb4⟩;have HF:=hid (And.intro (he4.mono HK3.out.size) (And.intro (HD3.out.later hb4) (HK3.out.trans (Kept.of_below hb4 LS B))));clear he4 hb4;go_wp2_with fail
 go_ret2
 exact⟨A,c',rfl,HF.out.1,⟨bo',HF.out.2.1⟩,HF.out.2.2⟩
theorem keep_no (B q h i:Nat) (c:Cc) (C:List Cc) (x epoch:Int) (k:ByteArray) (w:World) (d:Lc w B q h C x) (h1:0<C.length) (h2:C.length≤256) (hki:i=ofF k C.length) (hi:C[i]?=some c) (hlen:c.L.length≤900) (hk:k.size≤1000000) (V:Value) (hno:lrl.gotB c.L k=true∧epoch<(lrl.gotI c.L k).ep):
  Calls prog 78 #[.pointer (some ⟨q,0,none⟩),.int .i64 epoch,.string k,V] w fun e w'=>e= .returned (.bool false)∧(∃bo',Lc w' B q h (C.set i ⟨c.g,bo',c.r,getL c.L k⟩) x)∧Kept LS B w w':=by
 obtain⟨xe,hxe⟩:=words.nm (lrl.gotI c.L k);obtain⟨gb,hgb⟩:=words.nm (lrl.gotB c.L k);rw [←hxe,←hgb] at hno;have hks:k.size≤9223372036854775807:=by omega
 have HG:Hid (Calls prog 110 #[.pointer (some ⟨h,0,none⟩),.string k] w fun e w'=>e= .returned (.tuple #[.agg #[.int .i64 xe.ep,.slice xe.a xe.n xe.c],.bool gb])∧lrl.Left w B c.g c.r c.bo (getL c.L k) w'):=hid (by
   have:=Jbj B h c.g (gsOf C) c.bo c.r c.L k w d.shd (by rw [gs_len];exact h1) (by rw [gs_len];exact h2) hks (by rw [gs_len,←hki];exact Jfy hi) (d.fam.lru i c hi) (d.fam.ok i c hi) (by omega);unfold lrl.Got at this;rw [←hxe,←hgb] at this;exact this)
 have HLF:Hid (∀w2:World,lrl.Left w B c.g c.r c.bo (getL c.L k) w2→(∃bo',Lc w2 B q h (C.set i ⟨c.g,bo',c.r,getL c.L k⟩) x)∧Kept LS B w w2):=hid fun w2 h2=>d.left hi h2 ((d.fam.ok i c hi).get k);have c0:=Jaa d.blk 0;unfold ptrC at c0;obtain⟨hgt,hep⟩:=hno;subst hgt;clear hki hk hks hxe hgb d hi hlen h1 h2;go_enter func78,ntmps78
 go_wp2_with fail
 refine HG.out.mono ?_;rintro en w2 ⟨rfl,hl2⟩;obtain⟨⟨bo',d2⟩,hk2⟩:=HLF.out w2 hl2;obtain⟨W3,hW3⟩:=words.nm (w2.alloc (.cells #[.int .i64 xe.ep,.slice xe.a xe.n xe.c] 122));have hb3:Below w2.heap.size w2 W3:=words.b1 hW3;have hx3:W3.heap[w2.heap.size]?=some (.cells #[.int .i64 xe.ep,.slice xe.a xe.n xe.c] 122 (0,0)):=by rw [hW3];exact heap_alloc_new w2 _
 have d3:=d2.later hb3;have hk3:Kept LS B w W3:=hk2.trans (Kept.of_below hb3 LS B);have o0:=Jaa hx3 0;have o1:=Jaa hx3 1;have HD3:=hid d3;have HK3:=hid hk3;have HW3:=hid hW3;clear hl2 d2 hk2 hb3 hx3 d3 hk3 hW3 c0;go_upto_region 2 with fail
 rw [←HW3.out];go_wp2_with fail
 go_ret
 exact⟨rfl,⟨bo',HD3.out⟩,HK3.out⟩
theorem keep_yes (B q h i:Nat) (c:Cc) (C:List Cc) (x epoch:Int) (k:ByteArray) (w:World) (d:Lc w B q h C x) (h1:0<C.length) (h2:C.length≤256) (hki:i=ofF k C.length) (hi:C[i]?=some c) (hlen:c.L.length≤900) (hk:k.size≤1000000) (hB:B≤w.heap.size) (lo:Nat) (A0:Option Addr) (c0':Nat) (l:List (ByteArray×Int)) (hl:l.length≤1000000) (hen:Enr w lo (.slice A0 l.length c0') l) (hno:lrl.gotB c.L k=false∨(lrl.gotI c.L k).ep≤epoch):
  Calls prog 78 #[.pointer (some ⟨q,0,none⟩),.int .i64 epoch,.string k,.slice A0 l.length c0'] w fun e w'=>e= .returned (.bool true)∧∃(A:Option Addr) (c':Nat),Enr w' w.heap.size (.slice A l.length c') l∧(∃bo',Lc w' B q h (C.set i ⟨c.g,bo',c.r,putL c.L c.r k ⟨epoch,A,l.length,c'⟩⟩) x)∧Kept LS B w w':=by
 obtain⟨xe,hxe⟩:=words.nm (lrl.gotI c.L k);obtain⟨gb,hgb⟩:=words.nm (lrl.gotB c.L k);rw [←hxe,←hgb] at hno;have hks:k.size≤9223372036854775807:=by omega
 have HG:Hid (Calls prog 110 #[.pointer (some ⟨h,0,none⟩),.string k] w fun e w'=>e= .returned (.tuple #[.agg #[.int .i64 xe.ep,.slice xe.a xe.n xe.c],.bool gb])∧lrl.Left w B c.g c.r c.bo (getL c.L k) w'):=hid (by
   have:=Jbj B h c.g (gsOf C) c.bo c.r c.L k w d.shd (by rw [gs_len];exact h1) (by rw [gs_len];exact h2) hks (by rw [gs_len,←hki];exact Jfy hi) (d.fam.lru i c hi) (d.fam.ok i c hi) (by omega);unfold lrl.Got at this;rw [←hxe,←hgb] at this;exact this)
 have HLF:Hid (∀w2:World,lrl.Left w B c.g c.r c.bo (getL c.L k) w2→(∃bo',Lc w2 B q h (C.set i ⟨c.g,bo',c.r,getL c.L k⟩) x)∧Kept LS B w w2):=hid fun w2 h2=>d.left hi h2 ((d.fam.ok i c hi).get k);have c0:=Jaa d.blk 0;unfold ptrC at c0;have HL:=hid hl;have HEN:=hid hen;have HBw:Hid (B≤w.heap.size):=hid hB;have hset:∀(bo':Option Nat) (L:List (ByteArray×Lst)),(C.set i ⟨c.g,bo',c.r,L⟩)[i]?=some ⟨c.g,bo',c.r,L⟩:=fun bo' L=>by rw [List.getElem?_set,if_pos rfl,if_pos (List.getElem?_eq_some_iff.1 hi).1]
 have HPut:Hid (∀(bo':Option Nat) (A:Option Addr) (c':Nat) (W3 w4:World),Lc W3 B q h (C.set i ⟨c.g,bo',c.r,getL c.L k⟩) x→B≤W3.heap.size→Below W3.heap.size W3 w4→Calls prog 112 #[.pointer (some ⟨h,0,none⟩),.string k,.agg #[.int .i64 epoch,.slice A l.length c']] w4 fun e w'=>e= .returned (.tuple #[.string (goneK (getL c.L k) c.r k (⟨#[]⟩:ByteArray)),.bool (goneB (getL c.L k) c.r k)])∧lrl.Left w4 B c.g c.r bo' (putL (getL c.L k) c.r k ⟨epoch,A,l.length,c'⟩) w'):=hid fun bo' A c' W3 w4 d3 hB3 hb4=>by
  have d4:=d3.later hb4;have hll:(C.set i ⟨c.g,bo',c.r,getL c.L k⟩).length=C.length:=List.length_set;exact Jhm B h c.g (gsOf (C.set i ⟨c.g,bo',c.r,getL c.L k⟩)) bo' c.r (getL c.L k) k ⟨epoch,A,l.length,c'⟩ w4 d4.shd (by rw [gs_len,hll];exact h1) (by rw [gs_len,hll];exact h2) hks (by rw [gs_len,hll,←hki];exact Jfy (c:=⟨c.g,bo',c.r,getL c.L k⟩) (hset bo' _)) (d4.fam.lru i _ (hset bo' _)) (d4.fam.ok i _ (hset bo' _)) (by show (getL c.L k).length≤900;rw [Jg4 (d.fam.ok i c hi)];exact hlen) (Nat.le_trans hB3 hb4.size)
 have HEnd:Hid (∀(bo':Option Nat) (A:Option Addr) (c':Nat) (W3 w4 w5:World),Lc W3 B q h (C.set i ⟨c.g,bo',c.r,getL c.L k⟩) x→Kept LS B w W3→Below W3.heap.size W3 w4→lrl.Left w4 B c.g c.r bo' (putL (getL c.L k) c.r k ⟨epoch,A,l.length,c'⟩) w5→Enr w4 W3.heap.size (.slice A l.length c') l→w5.cell? ⟨q,0,none⟩=some (.pointer (some ⟨h,0,none⟩))∧Enr w5 w.heap.size (.slice A l.length c') l∧(∃bo',Lc w5 B q h (C.set i ⟨c.g,bo',c.r,putL c.L c.r k ⟨epoch,A,l.length,c'⟩⟩) x)∧Kept LS B w w5):=hid fun bo' A c' W3 w4 w5 d3 hk3 hb4 hl hs4=>by
  have d4:=d3.later hb4;obtain⟨⟨bo5,d5⟩,hk5⟩:=d4.left (hset bo' _) hl ((d4.fam.ok i _ (hset bo' _)).put k _);have hk35:Kept LS B w w5:=hk3.trans ((Kept.of_below hb4 LS B).trans hk5);rw [List.set_set,Jhw] at d5;exact⟨Jaa d5.blk 0,(hs4.kept hk5 (by unfold LS;decide)).mono hk3.size,⟨bo5,d5⟩,hk35⟩
 clear hki hk hks hxe hgb d hi hlen h1 h2 hl hen hset hB;rcases hgb:gb with _ |_
 ·clear hno
  subst hgb;go_enter func78,ntmps78
  go_wp2_with fail
  refine HG.out.mono ?_;rintro en w2 ⟨rfl,hl2⟩;obtain⟨⟨bo',d2⟩,hk2⟩:=HLF.out w2 hl2;obtain⟨W3,hW3⟩:=words.nm (w2.alloc (.cells #[.int .i64 xe.ep,.slice xe.a xe.n xe.c] 122));have hb3:Below w2.heap.size w2 W3:=words.b1 hW3;have hx3:W3.heap[w2.heap.size]?=some (.cells #[.int .i64 xe.ep,.slice xe.a xe.n xe.c] 122 (0,0)):=by rw [hW3];exact heap_alloc_new w2 _
  have d3:=d2.later hb3;have hk3:Kept LS B w W3:=hk2.trans (Kept.of_below hb3 LS B);have o0:=Jaa hx3 0;have o1:=Jaa hx3 1;have HD3:=hid d3;have HK3:=hid hk3;have HW3:=hid hW3;clear hl2 d2 hk2 hb3 hx3 d3 hk3 hW3 c0;go_upto_region 2 with fail
  rw [←HW3.out];have HSS:Hid (∀w':World,Below W3.heap.size W3 w'→w'.cell? ⟨q,0,none⟩=some (.pointer (some ⟨h,0,none⟩))):=hid fun w' hb=>Jaa (HD3.out.later hb).blk 0;have HCP:=hid (Jc4 lo A0 c0' l W3.drew (Enr.kept HEN.out HK3.out.drew (by unfold LS;decide)) HL.out);have HBD:Hid (Below W3.heap.size W3 W3.drew):=hid (Below.refl _ _).drew;have HPU:=hid (fun (A:Option Addr) (c':Nat) (w4:World) (hb:Below W3.heap.size W3 w4)=>(HPut.out bo' A c' W3 w4 HD3.out (Nat.le_trans HBw.out HK3.out.size) hb));have HFin:=hid (fun (A:Option Addr) (c':Nat) (w4 w5:World) (hb:Below W3.heap.size W3 w4) (hl:lrl.Left w4 B c.g c.r bo' (putL (getL c.L k) c.r k ⟨epoch,A,l.length,c'⟩) w5) (hs:Enr w4 W3.heap.size (.slice A l.length c') l)=>HEnd.out bo' A c' W3 w4 w5 HD3.out HK3.out hb hl hs);go_upto_region 4 with fail
  clear o0 o1;refine wp_region_held_drew (S:=fun w'=>(w'.cell? ⟨q,0,none⟩=some (.pointer (some ⟨h,0,none⟩)))) (by kernel_rfl) (HSS.out _ HBD.out) (fun hHeld=>?_);refine words.tk 0 27 (v:=?_) ?_ ?_
  rotate_left 1
  ·intro _ h;(try dsimp only at h);go_simp;(try with_reducible rfl)
  try simp only [words.pt]
  refine words.tk 1 28 (v:=?_) ?_ ?_
  rotate_left 1
  ·intro _ h;(try dsimp only at h);go_simp;(try with_reducible rfl)
  try simp only [words.pt]
  refine words.tk 2 29 (v:=?_) ?_ ?_
  rotate_left 1
  ·intro _ h;(try dsimp only at h);go_simp;(try with_reducible rfl)
  try simp only [words.pt]
  refine words.tk 3 30 (v:=?_) ?_ ?_
  rotate_left 1
  ·intro _ h;(try dsimp only at h);go_simp;(try with_reducible rfl)
  try simp only [words.pt]
  refine words.tk 4 31 (v:=?_) ?_ ?_
  rotate_left 1
  ·intro _ h;(try dsimp only at h);go_simp;(try with_reducible rfl)
  try simp only [words.pt]
  refine words.tk 5 32 (v:=?_) ?_ ?_
  rotate_left 1
  ·intro _ h;(try dsimp only at h);go_simp;(try with_reducible rfl)
  try simp only [words.pt]
  refine words.tk 6 33 (v:=?_) ?_ ?_
  rotate_left 1
  ·intro _ h;(try dsimp only at h);go_simp;(try with_reducible rfl)
  try simp only [words.pt]
  refine wpAnyH_ready (rs:=[7]) (by kernel_rfl) (by simp) (.cons rfl (fun K hK=>?_) .nil);go_simp
  go_at_call 79
  refine (HCP.out).mono ?_;rintro en w4 ⟨⟨A,c',rfl,hsp4⟩,hb4⟩;have HB4:=hid (HBD.out.trans hb4);have HS4:=hid hsp4;clear hb4 hsp4;clear hHeld;refine hK.out _ _ (HSS.out _ HB4.out) (fun hHeld=>?_);clear hK;refine words.tk 8 35 (v:=?_) ?_ ?_
  rotate_left 1
  ·intro _ h;(try dsimp only at h);go_simp;(try with_reducible rfl)
  try simp only [words.pt]
  refine wpAnyH_ready (rs:=[9]) (by kernel_rfl) (by simp) (.cons rfl (fun K hK=>?_) .nil);go_simp
  go_at_call 112
  refine (HPU.out A c' w4 HB4.out).mono ?_;rintro en w5 ⟨rfl,hl5⟩;have HE:=hid (HFin.out A c' w4 w5 HB4.out hl5 HS4.out);clear hl5;clear hHeld;refine hK.out _ _ (HE.out.1) (fun hHeld=>?_);clear hK;refine wpAnyH_done (by kernel_rfl) ?_ _;clear hHeld;go_wp2_with fail
  go_ret
  exact⟨rfl,A,c',HE.out.2⟩
 ·have hle:¬epoch<xe.ep:=by
   rcases hno with hno |hno
   ·rw [hgb] at hno;cases hno
   ·omega
  clear hno;subst hgb;go_enter func78,ntmps78
  go_wp2_with fail
  refine HG.out.mono ?_;rintro en w2 ⟨rfl,hl2⟩;obtain⟨⟨bo',d2⟩,hk2⟩:=HLF.out w2 hl2;obtain⟨W3,hW3⟩:=words.nm (w2.alloc (.cells #[.int .i64 xe.ep,.slice xe.a xe.n xe.c] 122));have hb3:Below w2.heap.size w2 W3:=words.b1 hW3;have hx3:W3.heap[w2.heap.size]?=some (.cells #[.int .i64 xe.ep,.slice xe.a xe.n xe.c] 122 (0,0)):=by rw [hW3];exact heap_alloc_new w2 _
  have d3:=d2.later hb3;have hk3:Kept LS B w W3:=hk2.trans (Kept.of_below hb3 LS B);have o0:=Jaa hx3 0;have o1:=Jaa hx3 1;have HD3:=hid d3;have HK3:=hid hk3;have HW3:=hid hW3;clear hl2 d2 hk2 hb3 hx3 d3 hk3 hW3 c0;go_upto_region 2 with fail
  rw [←HW3.out];have HSS:Hid (∀w':World,Below W3.heap.size W3 w'→w'.cell? ⟨q,0,none⟩=some (.pointer (some ⟨h,0,none⟩))):=hid fun w' hb=>Jaa (HD3.out.later hb).blk 0;have HCP:=hid (Jc4 lo A0 c0' l W3.drew (Enr.kept HEN.out HK3.out.drew (by unfold LS;decide)) HL.out);have HBD:Hid (Below W3.heap.size W3 W3.drew):=hid (Below.refl _ _).drew;have HPU:=hid (fun (A:Option Addr) (c':Nat) (w4:World) (hb:Below W3.heap.size W3 w4)=>(HPut.out bo' A c' W3 w4 HD3.out (Nat.le_trans HBw.out HK3.out.size) hb));have HFin:=hid (fun (A:Option Addr) (c':Nat) (w4 w5:World) (hb:Below W3.heap.size W3 w4) (hl:lrl.Left w4 B c.g c.r bo' (putL (getL c.L k) c.r k ⟨epoch,A,l.length,c'⟩) w5) (hs:Enr w4 W3.heap.size (.slice A l.length c') l)=>HEnd.out bo' A c' W3 w4 w5 HD3.out HK3.out hb hl hs);go_upto_region 4 with fail
  clear o0 o1;refine wp_region_held_drew (S:=fun w'=>(w'.cell? ⟨q,0,none⟩=some (.pointer (some ⟨h,0,none⟩)))) (by kernel_rfl) (HSS.out _ HBD.out) (fun hHeld=>?_);refine words.tk 0 27 (v:=?_) ?_ ?_
  rotate_left 1
  ·intro _ h;(try dsimp only at h);go_simp;(try with_reducible rfl)
  try simp only [words.pt]
  refine words.tk 1 28 (v:=?_) ?_ ?_
  rotate_left 1
  ·intro _ h;(try dsimp only at h);go_simp;(try with_reducible rfl)
  try simp only [words.pt]
  refine words.tk 2 29 (v:=?_) ?_ ?_
  rotate_left 1
  ·intro _ h;(try dsimp only at h);go_simp;(try with_reducible rfl)
  try simp only [words.pt]
  refine words.tk 3 30 (v:=?_) ?_ ?_
  rotate_left 1
  ·intro _ h;(try dsimp only at h);go_simp;(try with_reducible rfl)
  try simp only [words.pt]
  refine words.tk 4 31 (v:=?_) ?_ ?_
  rotate_left 1
  ·intro _ h;(try dsimp only at h);go_simp;(try with_reducible rfl)
  try simp only [words.pt]
  refine words.tk 5 32 (v:=?_) ?_ ?_
  rotate_left 1
  ·intro _ h;(try dsimp only at h);go_simp;(try with_reducible rfl)
  try simp only [words.pt]
  refine words.tk 6 33 (v:=?_) ?_ ?_
  rotate_left 1
  ·intro _ h;(try dsimp only at h);go_simp;(try with_reducible rfl)
  try simp only [words.pt]
  refine wpAnyH_ready (rs:=[7]) (by kernel_rfl) (by simp) (.cons rfl (fun K hK=>?_) .nil);go_simp
  go_at_call 79
  refine (HCP.out).mono ?_;rintro en w4 ⟨⟨A,c',rfl,hsp4⟩,hb4⟩;have HB4:=hid (HBD.out.trans hb4);have HS4:=hid hsp4;clear hb4 hsp4;clear hHeld;refine hK.out _ _ (HSS.out _ HB4.out) (fun hHeld=>?_);clear hK;refine words.tk 8 35 (v:=?_) ?_ ?_
  rotate_left 1
  ·intro _ h;(try dsimp only at h);go_simp;(try with_reducible rfl)
  try simp only [words.pt]
  refine wpAnyH_ready (rs:=[9]) (by kernel_rfl) (by simp) (.cons rfl (fun K hK=>?_) .nil);go_simp
  go_at_call 112
  refine (HPU.out A c' w4 HB4.out).mono ?_;rintro en w5 ⟨rfl,hl5⟩;have HE:=hid (HFin.out A c' w4 w5 HB4.out hl5 HS4.out);clear hl5;clear hHeld;refine hK.out _ _ (HE.out.1) (fun hHeld=>?_);clear hK;refine wpAnyH_done (by kernel_rfl) ?_ _;clear hHeld;go_wp2_with fail
  go_ret
  exact⟨rfl,A,c',HE.out.2⟩

structure Act16 where
 kd:Nat
 dr:Nat
 ep:Int
 mn:Nat
def a0:Act16:=⟨0,0,0,0⟩
def letB (i:Nat):ByteArray:=(⟨#[97,98,99,100]⟩:ByteArray).extract i (i+1)
def entN (m n:Nat):List (ByteArray×Int):=(List.range n).map fun i=>(letB i,(m:Int))
def entL (m:Nat):List (ByteArray×Int):=entN m (m % 5)
theorem Jtm (m n:Nat):(entN m n).length=n:=by unfold entN;rw [List.length_map,List.length_range]
theorem Jtv (w:World):(Instr.slice 9 (.string ⟨#[97,98,99,100]⟩) (some (.int .i64 0)) (some (.int .i64 1)) none).run prog w= .ok (.string (letB 0)) w:=by kernel_rfl
theorem Jty (w:World):(Instr.slice 9 (.string ⟨#[97,98,99,100]⟩) (some (.int .i64 1)) (some (.int .i64 2)) none).run prog w= .ok (.string (letB 1)) w:=by kernel_rfl
theorem Jtw (w:World):(Instr.slice 9 (.string ⟨#[97,98,99,100]⟩) (some (.int .i64 2)) (some (.int .i64 3)) none).run prog w= .ok (.string (letB 2)) w:=by kernel_rfl
theorem Jtx (w:World):(Instr.slice 9 (.string ⟨#[97,98,99,100]⟩) (some (.int .i64 3)) (some (.int .i64 4)) none).run prog w= .ok (.string (letB 3)) w:=by kernel_rfl
theorem Jsx (m j:Nat):entN m (j+1)=entN m j++[(letB j,(m:Int))]:=by
 unfold entN;rw [List.range_succ,List.map_append];rfl

structure Mpd (bM:Option Nat) (w w':World):Prop where
 tn:Tn (fun k=>some k=bM) w w'
 map:∀b,bM=some b→∀cs t f,w.heap[b]?≠some (.cells cs t f)
 map':∀b,bM=some b→∀cs t f,w'.heap[b]?≠some (.cells cs t f)
theorem Mpd.of_below {w w':World} (h:Below w.heap.size w w'):Mpd none w w':=⟨Tn.of_below h _,fun _ e=>(by cases e),fun _ e=>(by cases e)⟩
section
variable {bM:Option Nat} {w w':World}
theorem Mpd.ne (m:Mpd bM w w') {k:Nat} {cs:Array Value} {t:TypeId} {f:Nat×Nat} (h:w.heap[k]?=some (.cells cs t f)):¬some k=bM:=fun e=>m.map k e.symm _ _ _ h
theorem Mpd.blk (m:Mpd bM w w') {k:Nat} {cs:Array Value} {t:TypeId} {f:Nat×Nat} (h:w.heap[k]?=some (.cells cs t f)):w'.heap[k]?=some (.cells cs t f):=
 (m.tn.block k (lt_of_some h) (m.ne h)).trans h
theorem Mpd.own (m:Mpd bM w w') {base:Nat} {e:TypeId} {size n:Nat} {v:Value} {xs:List Value} (ho:w.ownsRow base e size v n xs):w'.ownsRow base e size v n xs:=
 m.tn.own ho fun k hk he=>by
  rcases ho.2 with⟨rfl,_⟩ |⟨b,c,cur,rfl,_,hh,_⟩
  ·simp [Value.ownBlock] at hk
  ·have:b=k:=by simpa [Value.ownBlock] using hk
   subst this;exact m.ne hh he
theorem Mpd.lc (m:Mpd bM w w') {B q h:Nat} {C:List Cc} {x:Int} (d:Lc w B q h C x):Lc w' B q h C x:=by
 refine⟨d.lo,m.blk d.blk,?_,⟨fun i c hc=>?_,d.fam.ok,d.fam.apart⟩⟩
 ·obtain⟨h0,v,hb,ho⟩:=d.shd
  exact⟨h0,v,m.blk hb,m.own ho⟩
 ·have hl:=d.fam.lru i c hc
  exact hl.tn m.tn fun k hk e=>by
   obtain⟨_,cs,t,f,h1,_⟩:=hl.types _ hk;exact m.ne h1 e
end
structure Kpm (B:Nat) (bM:Option Nat) (w w':World):Prop where
 os:w'.os=w.os
 tape:w'.tape=w.tape
 output:w'.output=w.output
 size:w.heap.size≤w'.heap.size
 block:∀k,k<w.heap.size→¬some k=bM→(k<B∨∀cs t f,w.heap[k]?=some (.cells cs t f)→¬DS t)→w'.heap[k]?=w.heap[k]?
 map:∀b,bM=some b→∀cs t f,w.heap[b]?≠some (.cells cs t f)
section
variable {B:Nat} {bM:Option Nat} {w w' w1 w2:World}
theorem Kpm.ne (m:Kpm B bM w w') {k:Nat} {cs:Array Value} {t:TypeId} {f:Nat×Nat} (h:w.heap[k]?=some (.cells cs t f)):¬some k=bM:=fun e=>m.map k e.symm _ _ _ h
theorem Kpm.blk (m:Kpm B bM w w') {k:Nat} {cs:Array Value} {t:TypeId} {f:Nat×Nat} (h:w.heap[k]?=some (.cells cs t f)) (hS:¬DS t):w'.heap[k]?=some (.cells cs t f):=
 (m.block k (lt_of_some h) (m.ne h) (.inr fun cs' t' f' he=>by rw [h] at he;injection he with he;injection he with _ he _;rw [←he];exact hS)).trans h
theorem Kpm.own (m:Kpm B bM w w') {base:Nat} {e:TypeId} {size n:Nat} {v:Value} {xs:List Value} (ho:w.ownsRow base e size v n xs) (hS:¬DS e):w'.ownsRow base e size v n xs:=by
 refine⟨ho.1,?_⟩;rcases ho.2 with hz |⟨b,c,cur,hv,hB,hh,h1,h2,h3,h4⟩
 ·exact .inl hz
 ·exact .inr ⟨b,c,cur,hv,hB,m.blk hh hS,h1,h2,h3,h4⟩
theorem Kpm.below (m:Kpm B bM w w') (hM:∀b,bM=some b→B≤b) (hB:B≤w.heap.size):Below B w w':=
 ⟨m.os,m.tape,m.output,m.size,fun k hk=>m.block k (Nat.lt_of_lt_of_le hk hB) (fun e=>by have:=hM k e.symm;omega) (.inl hk)⟩
theorem Kpm.of_kept (h:Kept DS B w w') (hm:∀b,bM=some b→∀cs t f,w.heap[b]?≠some (.cells cs t f)):Kpm B bM w w':=
 ⟨h.os,h.tape,h.output,h.size,fun k hk _ hc=>h.block k hk hc,hm⟩
theorem Kpm.kept_left (h:Kept DS B w w1) (m:Kpm B bM w1 w') (hm:∀b,bM=some b→∀cs t f,w.heap[b]?≠some (.cells cs t f)):Kpm B bM w w':=
 ⟨m.os.trans h.os,m.tape.trans h.tape,m.output.trans h.output,Nat.le_trans h.size m.size,fun k hk hne hc=>by
   have e:=h.block k hk hc;exact (m.block k (Nat.lt_of_lt_of_le hk h.size) hne (hc.imp id fun hc cs t f hw=>hc cs t f (e.symm.trans hw))).trans e,hm⟩
theorem Kpm.kept_right (m:Kpm B bM w w1) (h:Kept DS B w1 w'):Kpm B bM w w':=
 ⟨h.os.trans m.os,h.tape.trans m.tape,h.output.trans m.output,Nat.le_trans m.size h.size,fun k hk hne hc=>by
   have e:=m.block k hk hne hc;exact (h.block k (Nat.lt_of_lt_of_le hk m.size) (hc.imp id fun hc cs t f hw=>hc cs t f (e.symm.trans hw))).trans e,m.map⟩
theorem Kpm.mpd_right {S:Nat→Prop} (h:Kept DS B w w1) (m:Mpd bM w1 w2) (t:Tn S w2 w') (hS:∀k,S k→w.heap.size≤k) (hm:∀b,bM=some b→∀cs t f,w.heap[b]?≠some (.cells cs t f)):Kpm B bM w w':=
 ⟨(t.os.trans m.tn.os).trans h.os,(t.tape.trans m.tn.tape).trans h.tape,(t.output.trans m.tn.output).trans h.output,Nat.le_trans h.size (Nat.le_trans m.tn.size t.size),fun k hk hne hc=>by
   have h1:=Nat.lt_of_lt_of_le hk h.size;exact ((t.block k (Nat.lt_of_lt_of_le h1 m.tn.size) fun hs=>by have:=hS k hs;omega).trans (m.tn.block k h1 hne)).trans (h.block k hk hc),hm⟩
end
theorem idle2 (a b:Addr) (w:World):CallsD prog 111 #[.pointer (some a),.pointer (some b)] .returning w fun e u' w'=>e= .returned (.tuple #[])∧u'= .returning∧w'=w:=by
 refine callsD_of_wpS func111 rfl fun c₀ cs hu=>?_;apply wpS_seq;apply wpS_region;simp [wpOpsS,go_sem,recoverD,hu,ntmps111,Exit.thenS];refine wpS_cond (t:=false) (by simp [Act.eval,Array.replicate]) ?_;simp only [Bool.false_eq_true,if_false];refine wpS_of_wp (wp_skip ?_);cases c₀;simp_all [bodyPostS,results,results111]
def Makes (B:Nat) (bM:Option Nat) (w:World) (F:FuncId) (caps:Array Value) (l:List (ByteArray×Int)) (Post:World→Prop):Prop:=
 ∀w1,Kept DS B w w1→Calls prog F caps w1 fun e w2=>(∃A c,e= .returned (.slice A l.length c)∧Enr w2 w1.heap.size (.slice A l.length c) l)∧Mpd bM w1 w2∧Post w2
def AskOut (B q h:Nat) (C:List Cc) (x:Int) (bM:Option Nat) (l:List (ByteArray×Int)) (Post:World→Prop) (w w':World) (A:Option Addr) (c:Nat):Prop:=
 Enr w' w.heap.size (.slice A l.length c) l∧Lc w' B q h C (x+1)∧Kpm B bM w w'∧∃w2,Post w2∧∀b,bM=some b→w'.heap[b]?=w2.heap[b]?∧∀cs t f,w'.heap[b]?≠some (.cells cs t f)
theorem Jsh (B q h:Nat) (C:List Cc) (x:Int) (F:FuncId) (caps:Array Value) (bM:Option Nat) (l:List (ByteArray×Int)) (Post:World→Prop) (w:World) (d:Lc w B q h C x) (hx:0≤x∧x≤1000000)
  (hent:Enters prog F) (hM:∀b,bM=some b→b<w.heap.size∧∀cs t f,w.heap[b]?≠some (.cells cs t f)) (hmk:Makes B bM w F caps l Post):
  Calls prog 77 #[.pointer (some ⟨q,0,none⟩),.func (.func F) #[] caps] w fun e w'=>∃A c,e= .returned (.tuple #[.slice A l.length c,.bool true])∧AskOut B q h C x bM l Post w w' A c:=by
 obtain⟨W1,hW1⟩:=words.nm (w.alloc (.cells #[.slice none 0 0] 52));obtain⟨W2,hW2⟩:=words.nm (W1.alloc (.cells #[.bool false] 4));have hb1:=words.b1 hW1;have hb2:Below W1.heap.size W1 W2:=words.b1 hW2;have hz1:W1.heap.size=w.heap.size+1:=by rw [hW1];simp
 have hb12:=hb1.trans (hb2.mono hb1.size);have k1:W1.heap[w.heap.size]?=some (.cells #[.slice none 0 0] 52 (0,0)):=by rw [hW1];exact heap_alloc_new w _
 have k2:W2.heap[w.heap.size+1]?=some (.cells #[.bool false] 4 (0,0)):=by rw [hW2,←hz1];exact heap_alloc_new W1 _
 have k12:=(hb2.block _ (lt_of_some k1)).trans k1;have d2:=d.later hb12;have c1:=Jaa d2.blk 1;have g1:=Jab d2.blk 1;have hxw:IntKind.i64.wrap (x+1)=x+1:=IntWalk.i64_in _ (by omega);obtain⟨d3,hk3⟩:=d2.count (x+1);obtain⟨W3,hW3⟩:=words.nm (W2.setCell ⟨q,1,none⟩ (.int .i64 (x+1)));rw [←hW3] at d3 hk3;have hkw:Kept DS B w W3:=(Kept.of_below hb12 DS B).trans (keptWider hk3 fun _ h=> .inr (.inr h));have HC:=hid (hmk W3 hkw);have kk1:=hk3.blk k12 (by decide);have kk2:=hk3.blk k2 (by decide);have hmf:∀(fn:Fn) (first cap:Array Value) (w:World),(Instr.makeFunc fn first cap).run prog w= .ok (.func fn first cap) w:=fun _ _ _ _=>rfl;have hef:∀w:World,(binOp .eql 114 (.func (.func F) #[] caps) .nilFunc).run prog w= .ok (.bool false) w:=fun _=>by kernel_rfl
 have HKW:=hid hkw;have HD3:=hid d3;have HK1:=hid kk1;have HK2:=hid kk2;have HW1:=hid hW1;have HW2:=hid hW2;have HW3:=hid hW3;have HZ1:=hid hz1;have HM:=hid hM;have HSZ:Hid (w.heap.size+2≤W3.heap.size):=hid (by have:=lt_of_some kk2;omega);have HF:Hid (∀(w4:World) (A:Option Addr) (c:Nat),Enr w4 W3.heap.size (.slice A l.length c) l→Mpd bM W3 w4→Post w4→AskOut B q h C x bM l Post w ((w4.setCell ⟨w.heap.size,0,none⟩ (.slice A l.length c)).setCell ⟨w.heap.size+1,0,none⟩ (.bool true)) A c):=hid fun w4 A c he4 hm4 hp4=>by
  have b1:=hm4.blk kk1;have b2:=hm4.blk kk2;have hka:Kept (fun t=>t=52∨t=4) 0 w4 (w4.setCell ⟨w.heap.size,0,none⟩ (.slice A l.length c)):=(Kept.refl _ _ _).setCell (p:=⟨w.heap.size,0,none⟩) (Nat.zero_le _) ⟨_,_,_,b1,.inl rfl⟩ _;have hb2':(w4.setCell ⟨w.heap.size,0,none⟩ (.slice A l.length c)).heap[w.heap.size+1]?=some (.cells #[.bool false] 4 (0,0)):=(Below.heap_setCell _ _ _ _ (show w.heap.size+1≠w.heap.size by omega)).trans b2;have hkb:=hka.setCell (p:=⟨w.heap.size+1,0,none⟩) (Nat.zero_le _) ⟨_,_,_,hb2',.inr rfl⟩ (.bool true);have ht:Tn (fun k=>k=w.heap.size∨k=w.heap.size+1) w4 ((w4.setCell ⟨w.heap.size,0,none⟩ (.slice A l.length c)).setCell ⟨w.heap.size+1,0,none⟩ (.bool true)):=((Tn.refl _ w4).setCell (p:=⟨w.heap.size,0,none⟩) (.inr (.inl rfl)) _).setCell (p:=⟨w.heap.size+1,0,none⟩) (.inr (.inr rfl)) _;refine⟨(he4.mono hkw.size).kept hkb (by decide),(hm4.lc d3).kept hkb (by decide) (by decide) (by decide) (by decide) (by decide),Kpm.mpd_right hkw hm4 ht (fun k hk=>by omega) (fun b hb=>(hM b hb).2),w4,hp4,fun b hb=>?_⟩;have hlt:=(hM b hb).1;have e:=ht.block b (Nat.lt_of_lt_of_le hlt (Nat.le_trans hkw.size hm4.tn.size)) (by omega);exact⟨e,fun cs t f hc=>hm4.map' b hb cs t f (e.symm.trans hc)⟩
 unfold Enters at hent;rw [hz1] at hb2;clear hW1 hW2 hW3 hb1 hb2 hb12 k1 k2 k12 d d2 d3 hk3 hkw hmk kk1 kk2 hM hz1;go_enter_defers func77,ntmps77
 go_upto_region 1 with fail
 rw [←HW1.out,←HW2.out];go_upto_region 5 with fail
 rw [←HW3.out];clear c1 g1;go_wp2_with (go_at_fn F;refine HC.out.mono ?_;rintro e w4 ⟨⟨A,c,rfl,he4⟩,hm4,hp4⟩;have z0:=Jaa (hm4.blk HK1.out) 0;have fz0:=Jab (hm4.blk HK1.out) 0;have z1:=Jaa (hm4.blk HK2.out) 0;have fz1:=Jab (hm4.blk HK2.out) 0;have HE:=hid (HF.out w4 A c he4 hm4 hp4);have HB1':=hid (hm4.blk HK1.out);have HB2':=hid (hm4.blk HK2.out);clear he4 hm4 hp4)
 obtain⟨W9,hW9⟩:=words.nm ((w4.setCell ⟨w.heap.size,0,none⟩ (.slice A l.length c)).setCell ⟨w.heap.size+1,0,none⟩ (.bool true));have y0:W9.cell? ⟨w.heap.size,0,none⟩=some (.slice A l.length c):=by
  rw [hW9];exact Jaa ((Below.heap_setCell _ ⟨w.heap.size+1,0,none⟩ _ _ (show w.heap.size≠w.heap.size+1 by omega)).trans (heap_setCell_same w4 w.heap.size 0 _ _ (.slice A l.length c) HB1'.out)) 0
 have y1:W9.cell? ⟨w.heap.size+1,0,none⟩=some (.bool true):=by
  rw [hW9];exact Jaa (heap_setCell_same _ (w.heap.size+1) 0 _ _ (.bool true) ((Below.heap_setCell _ ⟨w.heap.size,0,none⟩ _ _ (show w.heap.size+1≠w.heap.size by omega)).trans HB2'.out)) 0
 rw [←hW9] at HE ⊢;clear hW9;refine leaves_cons (f:=111) (args:=#[.pointer (some ⟨w.heap.size,0,none⟩),.pointer (some ⟨w.heap.size+1,0,none⟩)]) (by simp) (by simp [go_sem]) ?_;refine (idle2 ⟨w.heap.size,0,none⟩ ⟨w.heap.size+1,0,none⟩ _).mono ?_;rintro e u' w'' ⟨rfl,rfl,rfl⟩;simp [Leaves,settle,results,results77,go_sem,y0,y1];exact⟨_,_,⟨rfl,rfl⟩,HE.out⟩

theorem Jeb (L:List (ByteArray×Lst)) (k:ByteArray):val (getL L k) k=val L k:=by
 unfold getL;rcases h:val L k with _ |v
 ·exact h
 ·simp [val]
theorem Jpo (L:List (ByteArray×Lst)) (k:ByteArray):lrl.gotB (getL L k) k=lrl.gotB L k:=by unfold lrl.gotB;rw [Jeb]
theorem Jqc (L:List (ByteArray×Lst)) (k:ByteArray):lrl.gotI (getL L k) k=lrl.gotI L k:=by unfold lrl.gotI;rw [Jeb]
theorem take_hit (B q h i:Nat) (c:Cc) (C:List Cc) (x epoch:Int) (k:ByteArray) (w:World) (d:Lc w B q h C x) (h1:0<C.length) (h2:C.length≤256) (hki:i=ofF k C.length) (hi:C[i]?=some c) (hlen:c.L.length≤900) (hk:k.size≤1000000) (V:Value)
  (lo:Nat) (l:List (ByteArray×Int)) (hl:l.length≤1000000) (hno:lrl.gotB c.L k=true∧(lrl.gotI c.L k).ep=epoch∧(lrl.gotI c.L k).n=l.length∧Enr w lo (.slice (lrl.gotI c.L k).a l.length (lrl.gotI c.L k).c) l):
  Calls prog 37 #[.pointer (some ⟨q,0,none⟩),.int .i64 epoch,.string k,V] w fun e w'=>∃(A:Option Addr) (c':Nat),e= .returned (.slice A l.length c')∧Enr w' w.heap.size (.slice A l.length c') l∧(∃bo',Lc w' B q h (C.set i ⟨c.g,bo',c.r,getL c.L k⟩) x)∧Kept LS B w w':=by
 have HLK:=hid (look_yes B q h i c C x epoch k w d h1 h2 hki hi hlen hk lo l hl hno);clear d h1 h2 hki hi hlen hk hl hno;go_enter func37,ntmps37
 go_wp2_with fail
 refine HLK.out.mono ?_;rintro e w1 ⟨A,c',rfl,h4⟩;have HE:=hid h4;clear h4;go_wp2_with fail
 go_ret
 exact⟨A,c',rfl,HE.out⟩
structure Miss (B q h i:Nat) (c:Cc) (C:List Cc) (x epoch:Int) (k:ByteArray) (w:World) (F:FuncId) (caps:Array Value) (bM:Option Nat) (l:List (ByteArray×Int)) (Post:World→Prop):Prop where
 dc:Lc w B q h C x
 pos:0<C.length
 few:C.length≤256
 of:i=ofF k C.length
 at_:C[i]?=some c
 len:c.L.length≤900
 key:k.size≤1000000
 cnt:0≤x∧x≤1000000
 lo:B≤w.heap.size
 ent:Enters prog F
 map:∀b,bM=some b→b<w.heap.size∧∀cs t f,w.heap[b]?≠some (.cells cs t f)
 mkr:Makes B bM w F caps l Post
 few2:l.length≤1000000
 no:lrl.gotB c.L k=false∨(lrl.gotI c.L k).ep≠epoch
section
variable {B q h i:Nat} {c:Cc} {C:List Cc} {x epoch:Int} {k:ByteArray} {w w1 w2 w3 w4:World} {F:FuncId} {caps:Array Value} {bM:Option Nat} {l:List (ByteArray×Int)} {Post:World→Prop} {bo':Option Nat} {A:Option Addr} {ca:Nat}
theorem Miss.look (m:Miss B q h i c C x epoch k w F caps bM l Post):
  Calls prog 76 #[.pointer (some ⟨q,0,none⟩),.int .i64 epoch,.string k] w fun e w'=>e= .returned (.tuple #[.slice none 0 0,.bool false])∧(∃bo',Lc w' B q h (C.set i ⟨c.g,bo',c.r,getL c.L k⟩) x)∧Kept LS B w w':=
 look_no B q h i c C x epoch k w m.dc m.pos m.few m.of m.at_ m.len m.key m.no
theorem Miss.ask (m:Miss B q h i c C x epoch k w F caps bM l Post) (d:Lc w1 B q h (C.set i ⟨c.g,bo',c.r,getL c.L k⟩) x) (hk:Kept LS B w w1):
  Calls prog 77 #[.pointer (some ⟨q,0,none⟩),.func (.func F) #[] caps] w1 fun e w'=>∃A c',e= .returned (.tuple #[.slice A l.length c',.bool true])∧AskOut B q h (C.set i ⟨c.g,bo',c.r,getL c.L k⟩) x bM l Post w1 w' A c':=by
 have hk':Kept DS B w w1:=keptWider hk fun _=>LS.ds;refine Jsh B q h _ x F caps bM l Post w1 d m.cnt m.ent (fun b hb=>?_) (fun w2 h2=>m.mkr w2 (hk'.trans h2));obtain⟨h1,h2⟩:=m.map b hb;refine⟨Nat.lt_of_lt_of_le h1 hk.size,fun cs t f he=>?_⟩;rw [hk.block b h1 (.inr fun cs t f he=>absurd he (h2 cs t f))] at he;exact h2 cs t f he
theorem Miss.set (m:Miss B q h i c C x epoch k w F caps bM l Post) (bo':Option Nat):(C.set i ⟨c.g,bo',c.r,getL c.L k⟩)[i]?=some ⟨c.g,bo',c.r,getL c.L k⟩:=by
 rw [List.getElem?_set,if_pos rfl,if_pos (List.getElem?_eq_some_iff.1 m.at_).1]
theorem Miss.keepYes (m:Miss B q h i c C x epoch k w F caps bM l Post) (hk:Kept LS B w w1) (o:AskOut B q h (C.set i ⟨c.g,bo',c.r,getL c.L k⟩) x bM l Post w1 w2 A ca) (hno:lrl.gotB c.L k=false∨(lrl.gotI c.L k).ep≤epoch):
  Calls prog 78 #[.pointer (some ⟨q,0,none⟩),.int .i64 epoch,.string k,.slice A l.length ca] w2 fun e w'=>e= .returned (.bool true)∧∃(A2:Option Addr) (c2:Nat),Enr w' w2.heap.size (.slice A2 l.length c2) l∧(∃bo2,Lc w' B q h (C.set i ⟨c.g,bo2,c.r,putL c.L c.r k ⟨epoch,A2,l.length,c2⟩⟩) (x+1))∧Kept LS B w2 w':=by
 obtain⟨o1,o2,o3,_⟩:=o;have hl:(C.set i ⟨c.g,bo',c.r,getL c.L k⟩).length=C.length:=List.length_set;refine (keep_yes B q h i ⟨c.g,bo',c.r,getL c.L k⟩ _ (x+1) epoch k w2 o2 (by rw [hl];exact m.pos) (by rw [hl];exact m.few) (by rw [hl];exact m.of) (m.set bo') (by show (getL c.L k).length≤900;rw [Jg4 (m.dc.fam.ok i c m.at_)];exact m.len) m.key (Nat.le_trans m.lo (Nat.le_trans hk.size o3.size)) w1.heap.size A ca l m.few2 o1 (by show lrl.gotB (getL c.L k) k=false∨(lrl.gotI (getL c.L k) k).ep≤epoch;rw [Jpo,Jqc];exact hno)).mono ?_;rintro e w' ⟨rfl,A2,c2,h1,⟨bo2,h2⟩,h3⟩;refine⟨rfl,A2,c2,h1,⟨bo2,?_⟩,h3⟩;rw [List.set_set,Jhw] at h2;exact h2
def TakeOut (B:Nat) (bM:Option Nat) (l:List (ByteArray×Int)) (Post:World→Prop) (w w':World) (A:Option Addr) (c':Nat):Prop:=
 Enr w' w.heap.size (.slice A l.length c') l∧Kpm B bM w w'∧∃w2,Post w2∧∀b,bM=some b→w'.heap[b]?=w2.heap[b]?∧∀cs t f,w'.heap[b]?≠some (.cells cs t f)
theorem Miss.fin (m:Miss B q h i c C x epoch k w F caps bM l Post) (hk:Kept LS B w w1) (o:AskOut B q h (C.set i ⟨c.g,bo',c.r,getL c.L k⟩) x bM l Post w1 w2 A ca) (hk3:Kept LS B w2 w3) (hb:Below w3.heap.size w3 w4) {A4:Option Addr} {c4:Nat} (he:Enr w4 w3.heap.size (.slice A4 l.length c4) l):
  TakeOut B bM l Post w w4 A4 c4:=by
 obtain⟨_,_,o3,u,o4,o5⟩:=o;have hk':Kept DS B w w1:=keptWider hk fun _=>LS.ds;have hk34:Kept DS B w2 w4:=(keptWider hk3 fun _=>LS.ds).trans (Kept.of_below hb DS B);refine⟨he.mono (Nat.le_trans hk.size (Nat.le_trans o3.size hk3.size)),(Kpm.kept_left hk' o3 fun b hb=>(m.map b hb).2).kept_right hk34,u,o4,fun b hb=>?_⟩;obtain⟨h1,h2⟩:=o5 b hb;have hlt:b<w2.heap.size:=Nat.lt_of_lt_of_le (m.map b hb).1 (Nat.le_trans hk.size o3.size);have e:=hk34.block b hlt (.inr fun cs t f he=>absurd he (h2 cs t f));exact⟨e.trans h1,fun cs t f he=>h2 cs t f (e.symm.trans he)⟩
end
theorem take_new (B q h i:Nat) (c:Cc) (C:List Cc) (x epoch:Int) (k:ByteArray) (w:World) (F:FuncId) (caps:Array Value) (bM:Option Nat) (l:List (ByteArray×Int)) (Post:World→Prop) (m:Miss B q h i c C x epoch k w F caps bM l Post) (hno:lrl.gotB c.L k=false∨(lrl.gotI c.L k).ep≤epoch):
  Calls prog 37 #[.pointer (some ⟨q,0,none⟩),.int .i64 epoch,.string k,.func (.func F) #[] caps] w fun e w'=>∃(A:Option Addr) (c':Nat),e= .returned (.slice A l.length c')∧TakeOut B bM l Post w w' A c'∧∃(A2:Option Addr) (c2:Nat),Enr w' w.heap.size (.slice A2 l.length c2) l∧(∀b,(Value.slice A2 l.length c2).ownBlock=some b→(Value.slice A l.length c').ownBlock≠some b)∧∃bo',Lc w' B q h (C.set i ⟨c.g,bo',c.r,putL c.L c.r k ⟨epoch,A2,l.length,c2⟩⟩) (x+1):=by
 have HM:=hid m;have HNO:=hid hno;clear m hno;go_enter func37,ntmps37
 go_wp2_with fail
 refine HM.out.look.mono ?_;rintro e w1 ⟨rfl,⟨bo',d1⟩,hk1⟩;have HA:=hid (HM.out.ask d1 hk1);have HK1:=hid hk1;clear d1 hk1;go_wp2_with fail
 refine HA.out.mono ?_;rintro e w2 ⟨A,ca,rfl,o⟩;have HKP:=hid (HM.out.keepYes HK1.out o HNO.out);have HO:=hid o;clear o HA;go_wp2_with fail
 refine HKP.out.mono ?_;rintro e w3 ⟨rfl,A2,c2,he3,⟨bo2,d3⟩,hk3⟩;have HCP:=hid (Jc4 w1.heap.size A ca l w3 (HO.out.1.kept hk3 (by unfold LS;decide)) HM.out.few2);have HE3:=hid he3;have HD3:=hid d3;have HK3:=hid hk3;clear he3 d3 hk3 HKP;go_wp2_with fail
 refine HCP.out.mono ?_;rintro e w4 ⟨⟨A4,c4,rfl,he4⟩,hb4⟩;have HF:=hid (And.intro (HM.out.fin HK1.out HO.out HK3.out hb4 he4) (And.intro ((HE3.out.later hb4).mono (Nat.le_trans HK1.out.size HO.out.2.2.1.size)) (And.intro (show ∀b,(Value.slice A2 l.length c2).ownBlock=some b→(Value.slice A4 l.length c4).ownBlock≠some b from fun b hb hc=>by
   have h1:=(HE3.out.lt b hb).2;have h2:=(he4.lt b hc).1;omega) (HD3.out.later hb4))))
 clear he4 hb4 HCP;go_wp2_with fail
 go_ret
 exact⟨A4,c4,rfl,HF.out.1,A2,c2,HF.out.2.1,HF.out.2.2.1,bo2,HF.out.2.2.2⟩
end Go.Proofs.YtkjpgheealfedaaGreatDoor.lca
