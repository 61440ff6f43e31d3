import Derived.Test.YtekekhgjobahaaaGreatDoorG36
set_option maxHeartbeats 1600000
set_option maxRecDepth 100000
open Go.Lib (hid)
open Go.Proofs.Tryz
namespace Go.Proofs.YtekekhgjobahaaaGreatDoor.lca
open Go.RowKit words lru sha lrl shl

def enC (p:ByteArray×Int):List Value:=[.string p.1,.int .i64 p.2]
theorem Jl6 (P:List (ByteArray×Int)):∀u∈P.flatMap enC,u.oneCell'=true:=fun u hu=>by
 obtain⟨p,_,hp⟩:=List.mem_flatMap.1 hu;simp only [enC,List.mem_cons,List.mem_nil_iff,or_false] at hp;rcases hp with rfl |rfl<;>rfl
theorem Jme (P:List (ByteArray×Int)):(P.flatMap enC).length=P.length*2:=by
 induction P with
 |nil=>rfl
 |cons p L ih=>rw [List.flatMap_cons,List.length_append,ih,List.length_cons];simp [enC];omega
theorem Jib:∀{P:List (ByteArray×Int)} {i:Nat} {p:ByteArray×Int},P[i]?=some p→(P.flatMap enC)[i*2]?=some (.string p.1)∧(P.flatMap enC)[i*2+1]?=some (.int .i64 p.2)
 |[],i,p,h=>by simp at h
 |x::P,i,p,h=>by
  rw [List.flatMap_cons];rcases i with _ |i
  ·obtain rfl:x=p:=by simpa using h
   exact⟨rfl,rfl⟩
  ·obtain⟨h1,h2⟩:=Jib (P:=P) (i:=i) (by simpa using h)
   rw [List.getElem?_append_right (by simp [enC];omega),List.getElem?_append_right (by simp [enC];omega)];exact⟨by rw [←h1];congr 1;simp [enC];omega,by rw [←h2];congr 1;simp [enC];omega⟩
def Enr (w:World) (B:Nat) (v:Value) (l:List (ByteArray×Int)):Prop:=w.ownsRow B 373 2 v l.length (l.flatMap enC)
theorem Enr.nil (w:World) (B:Nat):Enr w B (.slice none 0 0) []:=World.ownsRow_nil _ _ _ _
theorem Enr.kept {S:TypeId→Prop} {B':Nat} {w w':World} {B:Nat} {v:Value} {l:List (ByteArray×Int)} (h:Enr w B v l) (hk:Kept S B' w w') (hS:¬S 373):Enr w' B v l:=hk.own h hS
theorem Enr.later {w w':World} {B:Nat} {v:Value} {l:List (ByteArray×Int)} (h:Enr w B v l) (hb:Below w.heap.size w w'):Enr w' B v l:=h.kept (Kept.of_below hb (fun _=>False) 0) (fun hc=>hc)
theorem Enr.mono {w:World} {B B':Nat} {v:Value} {l:List (ByteArray×Int)} (h:Enr w B v l) (hB:B'≤B):Enr w B' v l:=own_mono h hB
theorem Enr.lt {w:World} {B:Nat} {v:Value} {l:List (ByteArray×Int)} (h:Enr w B v l):∀b,v.ownBlock=some b→B≤b∧b<w.heap.size:=fun b hb=>World.ownsRow.lt h b hb
theorem Enr.at {w:World} {B c:Nat} {A:Option Addr} {l:List (ByteArray×Int)} (h:Enr w B (.slice A l.length c) l) {i:Nat} {p:ByteArray×Int} (hp:l[i]?=some p):
  ∃b,A=some ⟨b,0,none⟩∧b<w.heap.size∧w.cell? ⟨b,i*2,none⟩=some (.string p.1)∧w.cell? ⟨b,i*2+1,none⟩=some (.int .i64 p.2):=by
 obtain⟨h1,h2⟩:=Jib hp;obtain⟨g,c',hv,_,hlt,hc⟩:=own_at h h1;obtain⟨g',c'',hv',_,_,hc'⟩:=own_at h h2;injection hv with hv;injection hv' with hv';subst hv;injection hv' with hv';injection hv' with hv';subst hv';exact⟨g,rfl,hlt,hc,hc'⟩
theorem infoEn:(Tryz.prog.info? 373).map (fun i=>(i.zero,i.size,i.bytes))=some (some (.agg #[.string ⟨#[]⟩,.int .i64 0]),2,24):=by kernel_rfl
theorem Jli:∀{P:List (ByteArray×Int)} {j:Nat} {u:Value},(P.flatMap enC)[j]?=some u→∃i p,P[i]?=some p∧((j=i*2∧u= .string p.1)∨(j=i*2+1∧u= .int .i64 p.2))
 |[],j,u,h=>by simp at h
 |x::P,j,u,h=>by
  rw [List.flatMap_cons] at h;rcases j with _ |_ |j
  ·exact⟨0,x,rfl,.inl ⟨rfl,by simpa [enC] using h.symm⟩⟩
  ·exact⟨0,x,rfl,.inr ⟨rfl,by simpa [enC] using h.symm⟩⟩
  ·rw [List.getElem?_append_right (by simp [enC])] at h
   obtain⟨i,p,h1,h2⟩:=Jli (P:=P) (j:=j) (by simpa [enC] using h);exact⟨i+1,p,by simpa using h1,h2.imp (fun⟨a,b⟩=>⟨by omega,b⟩) (fun⟨a,b⟩=>⟨by omega,b⟩)⟩
def Enrd (l:List (ByteArray×Int)) (w:World) (e:Ending) (w':World):Prop:=(∃A c,e= .returned (.slice A l.length c)∧Enr w' w.heap.size (.slice A l.length c) l)∧Below w.heap.size w w'
theorem Jdz (lo:Nat) (A:Option Addr) (c:Nat) (P:List (ByteArray×Int)) (w:World) (hp:Enr w lo (.slice A P.length c) P) (hl:P.length≤1000000):
  Calls prog 266 #[.slice A P.length c] w (Enrd P w):=by
 obtain⟨i0,hi,hz0,hz1,hz2⟩:=info_three infoEn;rcases A with _ |ad
 ·have hP:P=[]:=by
   rcases P with _ |⟨p,P⟩
   ·rfl
   ·obtain⟨b,h1,_⟩:=hp.at (i:=0) (p:=p) rfl
    cases h1
  subst hP;have heq0:=fun wx=>Lib.run_eql_slice_nil (P:=prog) wx 203 373 none 0 c 0 0 underlying203;clear hp hl hz0 hz1 hz2 hi;go_enter func266,ntmps266
  go_wp2_with fail
  go_ret
  exact⟨⟨none,0,rfl,Enr.nil _ _⟩,Below.refl _ _⟩
 ·have heq:=fun wx=>Lib.run_eql_slice_nil (P:=prog) wx 203 373 (some ad) P.length c 0 0 underlying203
  have hnews:Hid (∀j u,(P.flatMap enC)[j]?=some u→(w.alloc (.cells #[] 373)).cell? (ad.add j)=some u):=hid fun j u hu=>by
   obtain⟨i,p,hip,hj⟩:=Jli hu;obtain⟨b,hA,hB,hc1,hc2⟩:=hp.at hip;injection hA with hA;subst hA;rw [add_place];have hbl:=(Below.refl w.heap.size w).alloc (Nat.le_refl _) (.cells #[] 373);rcases hj with⟨rfl,rfl⟩ |⟨rfl,rfl⟩
   ·rw [Nat.zero_add]
    exact (hbl.cell (p:=⟨b,i*2,none⟩) hB).trans hc1
   ·rw [Nat.zero_add]
    exact (hbl.cell (p:=⟨b,i*2+1,none⟩) hB).trans hc2
  have HOne:=hid (Jl6 P);have HLen:=hid (Jme P);clear hp;go_enter func266,ntmps266
  go_wp2_with (at_builtin;refine wpList_append_own _ rfl (.tmp 5) (.tmp 6) 203 rfl w.heap.size 373 i0 _ 2 24 underlying203 hi hz0 hz1 hz2 rfl (by omega) (.slice (some ⟨w.heap.size,0,none⟩) 0 0) 0 [] rfl (World.ownsRow_made w #[] 0 (Nat.le_refl _) (by decide) rfl) ad P.length c (P.flatMap enC) rfl HLen.out hnews.out HOne.out (by simp only [maxLen];omega) (by omega) (by simp) ?_;intro v4 w4 hown4 hgrow hnil4)
  rw [Nat.zero_add,List.nil_append] at hown4;obtain⟨A4,c4,rfl,h1,h2,_⟩:=own_facts hown4;have HO4:=hid hown4;have HB4:=hid (keep_grown (S:=w.heap.size) ((Below.refl w.heap.size w).alloc (Nat.le_refl _) (.cells #[] 373)) (World.ownsRow_made w #[] 0 (Nat.le_refl _) (by decide) rfl:(w.alloc (.cells #[] 373)).ownsRow w.heap.size 373 2 _ 0 []) hgrow (Nat.le_refl _) (Nat.le_refl _));clear hown4 hgrow hnil4;go_wp2_with fail
  go_ret
  exact⟨⟨A4,c4,rfl,HO4.out⟩,HB4.out⟩

def gsOf (C:List Cc):List Nat:=C.map (·.g)
theorem Jga (gs:List Nat) (r:Nat):gsOf (news gs r)=gs:=by
 unfold gsOf news;rw [List.map_map];exact List.map_id' gs
theorem Jid {C:List Cc} {i:Nat} {c:Cc} (h:C[i]?=some c) (bo:Option Nat) (L:List (ByteArray×Lst)):gsOf (C.set i ⟨c.g,bo,c.r,L⟩)=gsOf C:=by
 unfold gsOf;rw [List.map_set];apply List.ext_getElem?;intro j;rw [List.getElem?_set];split
 ·rename_i e
  subst e;split
  ·rw [List.getElem?_map,h];rfl
  ·rename_i hlt
   rw [List.getElem?_eq_none (by omega)]
 ·rfl
structure Lc (w:World) (B q h:Nat) (C:List Cc) (x:Int):Prop where
 lo:B≤q
 blk:w.heap[q]?=some (.cells #[ptrC h,.int .i64 x] 256 (0,0))
 shd:Shd w B h (gsOf C)
 fam:Fam w B C
def DS (t:TypeId):Prop:=t=304∨t=442∨t=256
theorem Lc.kept {S:TypeId→Prop} {B':Nat} {w w':World} {B q h:Nat} {C:List Cc} {x:Int} (d:Lc w B q h C x) (hk:Kept S B' w w') (h0:¬S 256) (h1:¬S 282) (h2:¬S 283) (h3:¬S 304) (h4:¬S 442):Lc w' B q h C x:=
 ⟨d.lo,hk.blk d.blk h0,d.shd.kept hk h1 h2,d.fam.kept hk h3 h4⟩
theorem Lc.later {w w':World} {B q h:Nat} {C:List Cc} {x:Int} (d:Lc w B q h C x) (hb:Below w.heap.size w w'):Lc w' B q h C x:=
 d.kept (Kept.of_below hb (fun _=>False) 0) (fun hc=>hc) (fun hc=>hc) (fun hc=>hc) (fun hc=>hc) (fun hc=>hc)
theorem LS.ds {t:TypeId} (h:LS t):DS t:=h.imp_right .inl
theorem Lc.left {w w':World} {B q h i:Nat} {C:List Cc} {c:Cc} {x:Int} {L':List (ByteArray×Lst)} (d:Lc w B q h C x) (hi:C[i]?=some c) (hl:lrl.Left w B c.g c.r c.bo L' w') (hok:Ok L' c.r):
  (∃bo',Lc w' B q h (C.set i ⟨c.g,bo',c.r,L'⟩) x)∧Kept LS B w w':=by
 have hk:=d.fam.left_kept hi hl;obtain⟨bo',hf⟩:=d.fam.left hi hl hok;refine⟨⟨bo',d.lo,hk.blk d.blk (by unfold LS;decide),?_,hf⟩,hk⟩;rw [Jid hi];exact d.shd.kept hk (by unfold LS;decide) (by unfold LS;decide)
theorem Lc.count {w:World} {B q h:Nat} {C:List Cc} {x:Int} (d:Lc w B q h C x) (x':Int):
  Lc (w.setCell ⟨q,1,none⟩ (.int .i64 x')) B q h C x'∧Kept (fun t=>t=256) B w (w.setCell ⟨q,1,none⟩ (.int .i64 x')):=by
 have hk:Kept (fun t=>t=256) B w (w.setCell ⟨q,1,none⟩ (.int .i64 x')):=(Kept.refl (fun t=>t=256) _ _).setCell (p:=⟨q,1,none⟩) d.lo ⟨_,_,_,d.blk,rfl⟩ _;refine⟨⟨d.lo,?_,d.shd.kept hk (by decide) (by decide),d.fam.kept hk (by decide) (by decide)⟩,hk⟩;exact heap_setCell_same w q 1 _ _ _ d.blk

def NewL (w:World) (n r:Nat) (e:Ending) (w':World):Prop:=∃(q h:Nat) (gs:List Nat),e= .returned (.pointer (some ⟨q,0,none⟩))∧gs.length=n∧Lc w' w.heap.size q h (news gs r) 0∧Below w.heap.size w w'
theorem lnew_any (n r:Nat) (many room:Int) (w:World) (hn:(n:Int)=min (max many 1) 256) (hr:(r:Int)=max room 1):
  Calls prog 122 #[.int .i64 many,.int .i64 room] w (NewL w n r):=by
 have HC:=hid (snew_any n r many room w hn hr);clear hn hr;go_enter func122,ntmps122
 go_wp2_with fail
 refine HC.out.mono ?_;rintro e w1 ⟨rfl,gs,hgl,hs,hf,hb⟩;obtain⟨W2,hW2⟩:=words.nm (w1.alloc (.cells #[ptrC w.heap.size,.int .i64 0] 256));have hb2:Below w1.heap.size w1 W2:=words.b1 hW2;have hk2:W2.heap[w1.heap.size]?=some (.cells #[ptrC w.heap.size,.int .i64 0] 256 (0,0)):=by rw [hW2];exact heap_alloc_new w1 _
 have HE:Hid (NewL w n r (.returned (.pointer (some ⟨w1.heap.size,0,none⟩))) W2):=hid ⟨_,_,gs,rfl,hgl,⟨hb.size,hk2,by rw [Jga];exact hs.later hb2,hf.later hb2⟩,hb.trans (hb2.mono hb.size)⟩;rw [hW2] at HE;unfold ptrC at HE;clear hgl hs hf hb hb2 hk2 hW2;go_wp2_with fail
 go_ret
 exact HE.out
end Go.Proofs.YtekekhgjobahaaaGreatDoor.lca
