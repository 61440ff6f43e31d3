import Derived.Test.YtekekhgjobahaaaGreatDoorB8
import Derived.Test.YtekekhgjobahaaaGreatDoorC2
set_option maxHeartbeats 6400000
set_option maxRecDepth 100000
open Go.Lib (hid)
open Go.Proofs.Tryz
namespace Go.Proofs.YtekekhgjobahaaaGreatDoor.shl
open Go.RowKit words lru sha lrl

structure Cc where
 g:Nat
 bo:Option Nat
 r:Nat
 L:List (ByteArray×Lst)
structure Fam (w:World) (B:Nat) (C:List Cc):Prop where
 lru:∀(i:Nat) (c:Cc),C[i]?=some c→Lru w B c.g c.bo c.r c.L
 ok:∀(i:Nat) (c:Cc),C[i]?=some c→Ok c.L c.r
 apart:∀(i j:Nat) (a b:Cc),C[i]?=some a→C[j]?=some b→i≠j→∀k,Its a.g a.bo k→¬Its b.g b.bo k
theorem Fam.nil (w:World) (B:Nat):Fam w B []:=⟨fun i c h=>by simp at h,fun i c h=>by simp at h,fun i j a b h=>by simp at h⟩
theorem Jgf {w:World} {B g r:Nat} {bo:Option Nat} {L:List (ByteArray×Lst)} (h:Lru w B g bo r L) {k:Nat} (hk:Its g bo k):B≤k∧k<w.heap.size:=by
 rcases hk with rfl |hk
 ·exact⟨h.lt.1,h.lt.2.1⟩
 ·exact⟨(h.lt.2.2 k hk.symm).1,(h.lt.2.2 k hk.symm).2.1⟩
theorem Fam.kept {S:TypeId→Prop} {B':Nat} {w w':World} {B:Nat} {C:List Cc} (h:Fam w B C) (hk:Kept S B' w w') (h1:¬S 304) (h2:¬S 442):Fam w' B C:=
 ⟨fun i c hc=>(h.lru i c hc).of_kept hk h1 h2,h.ok,h.apart⟩
theorem Fam.later {w w':World} {B:Nat} {C:List Cc} (h:Fam w B C) (hb:Below w.heap.size w w'):Fam w' B C:=h.kept (Kept.of_below hb (fun _=>False) 0) (fun hc=>hc) (fun hc=>hc)
theorem Fam.left {w w':World} {B i:Nat} {C:List Cc} {c:Cc} {L':List (ByteArray×Lst)} (h:Fam w B C) (hi:C[i]?=some c) (hl:lrl.Left w B c.g c.r c.bo L' w') (hok:Ok L' c.r):∃bo',Fam w' B (C.set i ⟨c.g,bo',c.r,L'⟩):=by
 obtain⟨bo',h1,h2⟩:=hl.ex;have hin:i<C.length:=(List.getElem?_eq_some_iff.1 hi).1;have hset:∀j x,(C.set i ⟨c.g,bo',c.r,L'⟩)[j]?=some x→(j=i∧x=⟨c.g,bo',c.r,L'⟩)∨(j≠i∧C[j]?=some x):=fun j x hx=>by
  rw [List.getElem?_set] at hx;by_cases e:i=j
  ·subst e
   rw [if_pos rfl,if_pos hin] at hx;exact .inl ⟨rfl,(Option.some.inj hx).symm⟩
  ·rw [if_neg e] at hx
   exact .inr ⟨fun h=>e h.symm,hx⟩
 have hfar:∀j x,C[j]?=some x→j≠i→∀k,Its c.g bo' k→¬Its x.g x.bo k:=fun j x hx hj k hk hk2=>by
  rcases hk with rfl |hk
  ·exact h.apart i j c x hi hx (fun e=>hj e.symm) _ (.inl rfl) hk2
  ·rcases h2 k hk.symm with hb |hb
   ·exact h.apart i j c x hi hx (fun e=>hj e.symm) k (.inr hb.symm) hk2
   ·have:=(Jgf (h.lru j x hx) hk2).2
    omega
 refine⟨bo',fun j x hx=>?_,fun j x hx=>?_,fun j j' a b ha hb hj k hk hk2=>?_⟩
 ·rcases hset j x hx with⟨_,rfl⟩ |⟨hj,hx⟩
  ·exact h1
  ·exact (h.lru j x hx).tn hl.tn fun k hk hk2=>h.apart i j c x hi hx (fun e=>hj e.symm) k hk2 hk
 ·rcases hset j x hx with⟨_,rfl⟩ |⟨hj,hx⟩
  ·exact hok
  ·exact h.ok j x hx
 ·rcases hset j a ha with⟨rfl,rfl⟩ |⟨hja,ha2⟩<;>rcases hset j' b hb with⟨rfl,rfl⟩ |⟨hjb,hb2⟩
  ·exact hj rfl
  ·exact hfar j' b hb2 hjb k hk hk2
  ·exact hfar j a ha2 hja k hk2 hk
  ·exact h.apart j j' a b ha2 hb2 hj k hk hk2
theorem Fam.left_kept {w w':World} {B i:Nat} {C:List Cc} {c:Cc} {L':List (ByteArray×Lst)} (h:Fam w B C) (hi:C[i]?=some c) (hl:lrl.Left w B c.g c.r c.bo L' w'):Kept LS B w w':=hl.kept (h.lru i c hi)
theorem Fam.join {w w':World} {B:Nat} {C D:List Cc} (h:Fam w B C) (hB:B≤w.heap.size) (hb:Below w.heap.size w w') (hd:Fam w' w.heap.size D):Fam w' B (C++D):=by
 have h':=h.later hb;have hat:∀(i:Nat) (c:Cc),(C++D)[i]?=some c→(i<C.length∧C[i]?=some c)∨(C.length≤i∧D[i - C.length]?=some c):=fun i c hc=>by
  rw [List.getElem?_append] at hc;split at hc
  ·exact .inl ⟨by assumption,hc⟩
  ·exact .inr ⟨by omega,hc⟩
 have hcd:∀(i j:Nat) (a b:Cc),C[i]?=some a→D[j]?=some b→∀k,Its a.g a.bo k→¬Its b.g b.bo k:=fun i j a b ha hb k hk hk2=>by
  have h1:=(Jgf (h.lru i a ha) hk).2;have h2:=(Jgf (hd.lru j b hb) hk2).1;omega
 refine⟨fun i c hc=>?_,fun i c hc=>?_,fun i j a b ha hb' hij k hk hk2=>?_⟩
 ·rcases hat i c hc with⟨_,hc⟩ |⟨_,hc⟩
  ·exact h'.lru i c hc
  ·obtain⟨h0,v,h1,h2,h3⟩:=hd.lru _ c hc
   exact⟨Nat.le_trans hB h0,v,h1,h2,own_mono h3 hB⟩
 ·rcases hat i c hc with⟨_,hc⟩ |⟨_,hc⟩
  ·exact h.ok i c hc
  ·exact hd.ok _ c hc
 ·rcases hat i a ha with⟨hi,ha⟩ |⟨hi,ha⟩<;>rcases hat j b hb' with⟨hj,hb'⟩ |⟨hj,hb'⟩
  ·exact h.apart i j a b ha hb' hij k hk hk2
  ·exact hcd i _ a b ha hb' k hk hk2
  ·exact hcd j _ b a hb' ha k hk2 hk
  ·exact hd.apart _ _ a b ha hb' (by omega) k hk hk2
theorem Fam.one {w:World} {B g r:Nat} {bo:Option Nat} {L:List (ByteArray×Lst)} (h:Lru w B g bo r L) (hok:Ok L r):Fam w B [⟨g,bo,r,L⟩]:=by
 have h1:∀(i:Nat) (c:Cc),([⟨g,bo,r,L⟩]:List Cc)[i]?=some c→i=0∧c=⟨g,bo,r,L⟩:=fun i c hc=>by
  rcases i with _ |i
  ·exact⟨rfl,by simpa using hc.symm⟩
  ·simp at hc
 refine⟨fun i c hc=>?_,fun i c hc=>?_,fun i j a b ha hb hij=>?_⟩
 ·obtain⟨_,rfl⟩:=h1 i c hc
  exact h
 ·obtain⟨_,rfl⟩:=h1 i c hc
  exact hok
 ·obtain⟨rfl,_⟩:=h1 i a ha
  obtain⟨rfl,_⟩:=h1 j b hb;exact absurd rfl hij

def Shd (w:World) (B h:Nat) (gs:List Nat):Prop:=B≤h∧∃v,w.heap[h]?=some (.cells #[v] 282 (0,0))∧w.ownsRow B 283 1 v gs.length (gs.map ptrC)
def SS (t:TypeId):Prop:=t=282∨t=283
theorem Shd.kept {S:TypeId→Prop} {B':Nat} {w w':World} {B h:Nat} {gs:List Nat} (hs:Shd w B h gs) (hk:Kept S B' w w') (h1:¬S 282) (h2:¬S 283):Shd w' B h gs:=by
 obtain⟨h0,v,hb,ho⟩:=hs;exact⟨h0,v,hk.blk hb h1,hk.own ho h2⟩
theorem Shd.later {w w':World} {B h:Nat} {gs:List Nat} (hs:Shd w B h gs) (hb:Below w.heap.size w w'):Shd w' B h gs:=hs.kept (Kept.of_below hb (fun _=>False) 0) (fun hc=>hc) (fun hc=>hc)
theorem Shd.mono {w:World} {B B' h:Nat} {gs:List Nat} (hs:Shd w B h gs) (hB:B'≤B):Shd w B' h gs:=by
 obtain⟨h0,v,hb,ho⟩:=hs;exact⟨Nat.le_trans hB h0,v,hb,own_mono ho hB⟩
theorem Jqm {w:World} {B c:Nat} {A:Option Addr} {gs:List Nat} (ho:w.ownsRow B 283 1 (.slice A gs.length c) gs.length (gs.map ptrC)) {i g:Nat} (hi:gs[i]?=some g):∃b,A=some ⟨b,0,none⟩∧b<w.heap.size∧w.cell? ⟨b,i,none⟩=some (ptrC g):=by
 obtain⟨b,c',h1,_,h2,h3⟩:=own_at ho (j:=i) (u:=ptrC g) (by rw [List.getElem?_map,hi];rfl);injection h1 with h1;exact⟨b,h1,h2,h3⟩
theorem Shd.cells {w:World} {B h:Nat} {gs:List Nat} (hs:Shd w B h gs):∃A c,w.cell? ⟨h,0,none⟩=some (.slice A gs.length c)∧h<w.heap.size∧∀i g,gs[i]?=some g→∃b,A=some ⟨b,0,none⟩∧b<w.heap.size∧w.cell? ⟨b,i,none⟩=some (ptrC g):=by
 obtain⟨h0,v,hb,ho⟩:=hs;obtain⟨A,c,rfl,_⟩:=own_facts ho;exact⟨A,c,Jaa hb 0,lt_of_some hb,fun i g hi=>Jqm ho hi⟩
def news (gs:List Nat) (r:Nat):List Cc:=gs.map fun g=>⟨g,none,r,[]⟩
structure NewIn (w:World) (r:Nat) (gs:List Nat) (v:Value) (wr:World):Prop where
 blk:wr.heap[w.heap.size]?=some (.cells #[v] 282 (0,0))
 own:wr.ownsRow w.heap.size 283 1 v gs.length (gs.map ptrC)
 fam:Fam wr w.heap.size (news gs r)
 below:Below w.heap.size w wr
theorem NewIn.next {w wr w3 w4 w5:World} {r:Nat} {gs:List Nat} {v:Value} {b c:Nat} (h:NewIn w r gs v wr) (hr:1≤r) (hw3:w3=wr.alloc (.cells #[.int .i64 (r:Int),.slice none 0 0] 304)) (hb4:Below w3.heap.size w3 w4)
  (ho:w5.ownsRow w.heap.size 283 1 (.slice (some ⟨b,0,none⟩) (gs.length+1) c) (gs.length+1) (gs.map ptrC++[ptrC wr.heap.size])) (hg:w4.grownBy w5 v.ownBlock):
  NewIn w r (gs++[wr.heap.size]) (.slice (some ⟨b,0,none⟩) (gs.length+1) c) (w5.setCell ⟨w.heap.size,0,none⟩ (.slice (some ⟨b,0,none⟩) (gs.length+1) c)):=by
 have hB:=h.below.size;have hb3:Below wr.heap.size wr w3:=words.b1 hw3;have hb34:=hb3.trans (hb4.mono hb3.size);have ho4:=ownL h.own hb34;have hblk4:=(hb34.block _ (lt_of_some h.blk)).trans h.blk;have hk:Kept SS w.heap.size w4 w5:=(Kept.refl SS _ w4).grown hg ho4 (Nat.le_refl _) (.inr rfl);have hblk5:w5.heap[w.heap.size]?=some (.cells #[v] 282 (0,0)):=(hg.block _ (lt_of_some hblk4) (fun e=>Jap ho4 hblk4 (by decide) e.symm)).trans hblk4;have hk5:=hk.setCell (p:=⟨w.heap.size,0,none⟩) (Nat.le_refl _) ⟨_,_,_,hblk5,.inl rfl⟩ (.slice (some ⟨b,0,none⟩) (gs.length+1) c);have hnew:Fam w3 wr.heap.size [⟨wr.heap.size,none,r,[]⟩]:=Fam.one (by rw [hw3];exact Jl4 wr wr.heap.size r (Nat.le_refl _)) (Ok.new hr);have hf3:=(h.fam.join hB hb3 hnew).later hb4;have hf5:=hf3.kept hk5 (by unfold SS;decide) (by unfold SS;decide);refine⟨Jbo hblk5 _,?_,?_,(h.below.trans (hb34.mono hB)).trans (hk5.below (Nat.le_trans hB (Nat.le_trans hb3.size hb4.size)))⟩
 ·rw [List.length_append,List.map_append]
  exact Jad ho (Jap ho hblk5 (by decide)) _
 ·unfold news at hf5 ⊢
  rw [List.map_append];exact hf5

theorem infoPtr:(Tryz.prog.info? 283).map (fun i=>(i.zero,i.size,i.bytes))=some (some (.pointer none),1,8):=by kernel_rfl
def NewOut (w:World) (n r:Nat) (e:Ending) (w':World):Prop:=
 e= .returned (.pointer (some ⟨w.heap.size,0,none⟩))∧∃gs:List Nat,gs.length=n∧Shd w' w.heap.size w.heap.size gs∧Fam w' w.heap.size (news gs r)∧Below w.heap.size w w'
theorem snew_any (n r:Nat) (many room:Int) (w:World) (hn:(n:Int)=min (max many 1) 256) (hr:(r:Int)=max room 1):
  Calls prog 155 #[.int .i64 many,.int .i64 room] w (NewOut w n r):=by
 obtain⟨i1,hi',hw0,hw1,hw2⟩:=info_three infoPtr;have hr1:1≤r:=by omega
 have hn256:n≤256:=by omega
 obtain⟨W1,hW1⟩:=words.nm (w.alloc (.cells #[.slice none 0 0] 282));have hb1:=words.b1 hW1;have HI:Hid (NewIn w r [] (.slice none 0 0) W1):=hid ⟨by rw [hW1];exact heap_alloc_new w _,World.ownsRow_nil _ _ _ _,Fam.nil _ _,hb1⟩;have hmn:min (max many 1) 256=(n:Int):=hn.symm;have HR:=hid hr;have HW1:=hid hW1;clear hb1 hW1 hn hr;go_enter func155,ntmps155
 go_upto_region 2 with fail
 rw [←HW1.out];go_wp2_with fail
 go_loopw [11] (fun v wr=>∃(k:Nat) (gs:List Nat) (vs:Value),v= .int .i64 (k:Int)∧k≤n∧Hid (NewIn w r gs vs wr)∧gs.length=k) (fun v _=>n - (intOf v).toNat)
 case atStart=>exact⟨0,[],_,rfl,Nat.zero_le _,HI,rfl⟩
 case round=>
  clear HI;obtain⟨k,gs,vs,rfl,hk,HN,hgk⟩:=hrel;have k0:(0:Int)≤(k:Int):=by omega
  by_cases hkn:k<n
  ·have k1:(k:Int)<(n:Int):=by omega
   obtain⟨A,c,rfl,_,_,_⟩:=own_facts HN.out.own;have cg:wr.cell? ⟨w.heap.size,0,none⟩=some (.slice A gs.length c):=Jaa HN.out.blk 0;obtain⟨w3,hw3⟩:=words.nm (wr.drew.alloc (.cells #[.int .i64 (r:Int),.slice none 0 0] 304));have hb3:Below wr.heap.size wr w3:=by rw [hw3];exact (Below.refl _ _).drew.alloc (Nat.le_refl _) _
   have hz3:w3.heap.size=wr.heap.size+1:=by rw [hw3];simp
   have HC:Hid (Calls prog 185 #[.int .i64 room] wr.drew fun e w'=>e= .returned (.pointer (some ⟨wr.heap.size,0,none⟩))∧w3=w'):=hid ((new_any r room wr.drew HR.out).mono fun e w' ⟨h1,h2⟩=>⟨h1,by rw [h2,hw3]⟩);have hblk3:=(hb3.block _ (lt_of_some HN.out.blk)).trans HN.out.blk;have cg3:w3.cell? ⟨w.heap.size,0,none⟩=some (.slice A gs.length c):=Jaa hblk3 0;obtain⟨w4,hw4⟩:=words.nm (w3.alloc (.cells #[ptrC wr.heap.size] 283));have hb4:Below w3.heap.size w3 w4:=words.b1 hw4;have hb34:=hb3.trans (hb4.mono hb3.size);have HO4:=hid (ownL HN.out.own hb34);have hblk4:=(hb34.block _ (lt_of_some HN.out.blk)).trans HN.out.blk;have HBLK4:=hid hblk4;have HN4:Hid (∀(m:Nat) (u:Value),([ptrC wr.heap.size]:List Value)[m]?=some u→w4.cell? ((⟨w3.heap.size,0,none⟩:Addr).add m)=some u):=hid fun m u hm=>by rw [hw4,Jfp];simpa using hm
   have cgA:∀o:Obj,(w3.alloc o).cell? ⟨w.heap.size,0,none⟩=some (.slice A gs.length c):=fun o=>(World.cell?_of_block (Below.heap_alloc w3 o _ (lt_of_some hblk3))).trans cg3;have HZ4:Hid (w.heap.size≤w4.heap.size):=hid (Nat.le_trans HN.out.below.size hb34.size);have HNX:=hid (fun (w5:World) (b c':Nat) (ho:w5.ownsRow w.heap.size 283 1 (.slice (some ⟨b,0,none⟩) (gs.length+1) c') (gs.length+1) (gs.map ptrC++[ptrC wr.heap.size])) (hg:w4.grownBy w5 (Value.slice A gs.length c).ownBlock)=>NewIn.next (wr:=wr.drew) (w3:=w3) (w4:=w4) ⟨HN.out.blk,HN.out.own,⟨HN.out.fam.lru,HN.out.fam.ok,HN.out.fam.apart⟩,⟨HN.out.below.os,HN.out.below.tape,HN.out.below.output,HN.out.below.size,HN.out.below.block⟩⟩ hr1 hw3 hb4 ho hg);have HW4:=hid hw4;unfold ptrC at hw4;have HW4':=hid hw4.symm;have HZ3:=hid hz3;have HGK:=hid hgk;have hg256:gs.length≤256:=by omega
   clear hw3 hb3 hz3 hblk3 hw4 hb4 hb34 hblk4 HN hgk;go_wp2_with fail
   go_region_law (first
     |(go_simp;go_at_call 185;refine HC.out.mono ?_;rintro e wx ⟨rfl,rfl⟩)
     |(rw [HW4'.out];refine step_append_lies _ (by rfl) _ _ _ (by rfl) w.heap.size 283 i1 _ 1 8 underlying280 hi' hw0 hw1 hw2 rfl (by omega) (.slice A gs.length c) gs.length (gs.map ptrC) (by rfl) HO4.out
           ⟨w3.heap.size,0,none⟩ 1 1 [ptrC wr.heap.size] (by rfl) (by rfl) HN4.out (by simp [Value.oneCell',ptrC]) (by omega) (by simp only [maxLen];omega) (by omega) HZ4.out w4.heap.size (by rfl) ?_;intro b c' w5 hown5 hgrow5 hat5 hlt5;have hg5:=(hgrow5.block _ (lt_of_some HBLK4.out) (fun e=>Jap HO4.out HBLK4.out (by decide) e.symm)).trans HBLK4.out;have hc5:=Jaa hg5 0;have hf5:=Jab hg5 0))
   all_goals
    have HNN:=hid (HNX.out w5 b c' hown5 hgrow5);clear hown5 hgrow5 hat5 hlt5 hg5;go_wp2_with fail
    go_roundw
    case rel=>exact⟨k+1,gs++[wr.heap.size],_,by go_num,by omega,HNN,by rw [List.length_append,HGK.out];rfl⟩
    case measure=>simp [intOf];omega
  ·obtain rfl:k=n:=by omega
   have HE:Hid (NewOut w k r (.returned (.pointer (some ⟨w.heap.size,0,none⟩))) wr):=hid ⟨rfl,gs,hgk,⟨Nat.le_refl _,_,HN.out.blk,HN.out.own⟩,HN.out.fam,HN.out.below⟩;clear HN hgk;go_wp2_with fail
   go_ret
   exact HE.out

theorem Shd.drew {w:World} {B h:Nat} {gs:List Nat} (hs:Shd w B h gs):Shd w.drew B h gs:=hs
theorem slen_any (B h g i:Nat) (gs:List Nat) (bo:Option Nat) (r:Nat) (L:List (ByteArray×Lst)) (w:World) (hs:Shd w B h gs) (hg:gs[i]?=some g) (hl:Lru w B g bo r L):
  Calls prog 374 #[.pointer (some ⟨h,0,none⟩),.int .i64 (i:Int)] w fun e w'=>e= .returned (.int .i64 (L.length:Int))∧w=w':=by
 obtain⟨A,c,c0,_,hat⟩:=hs.cells;obtain⟨b,hA,_,p0⟩:=hat i g hg;subst hA;unfold ptrC at p0;have hil:i<gs.length:=(List.getElem?_eq_some_iff.1 hg).1;have i0:(0:Int)≤(i:Int):=by omega
 have i2:¬(i:Int)<0:=by omega
 have i1:(i:Int)<(gs.length:Int):=by omega
 have i3:¬(gs.length:Int)≤(i:Int):=by omega
 have i4:¬gs.length≤i:=by omega
 have HC:=hid (Jkw B g bo r L w hl);clear hs hg hl hat;go_enter func374,ntmps374
 go_wp2_with fail
 refine HC.out.mono ?_;rintro e w2 ⟨rfl,rfl⟩;go_wp2_with fail
 go_ret
 exact⟨rfl,rfl⟩
end Go.Proofs.YtekekhgjobahaaaGreatDoor.shl

namespace Go.Proofs.YtekekhgjobahaaaGreatDoor.lca
open Go.RowKit words lru sha lrl shl

theorem below_drewN (w:World) (n:Nat):Below w.heap.size w (w.drewN n):=⟨rfl,rfl,rfl,Nat.le_refl _,fun _ _=>rfl⟩
def enC (p:ByteArray×Int):List Value:=[.string p.1,.int .i64 p.2]
theorem Jwj (P:List (ByteArray×Int)):∀u∈P.flatMap enC,u.oneCell'=true:=fun u hu=>by
 obtain⟨p,_,hp⟩:=List.mem_flatMap.1 hu;simp only [enC,List.mem_cons,List.mem_nil_iff,or_false] at hp;rcases hp with rfl |rfl<;>rfl
theorem Jv8 (P:List (ByteArray×Int)):(P.flatMap enC).length=P.length*2:=by
 induction P with
 |nil=>rfl
 |cons p L ih=>rw [List.flatMap_cons,List.length_append,ih,List.length_cons];simp [enC];omega
theorem Jr7:∀{P:List (ByteArray×Int)} {i:Nat} {p:ByteArray×Int},P[i]?=some p→(P.flatMap enC)[i*2]?=some (.string p.1)∧(P.flatMap enC)[i*2+1]?=some (.int .i64 p.2)
 |[],i,p,h=>by simp at h
 |x::P,i,p,h=>by
  rw [List.flatMap_cons];rcases i with _ |i
  ·obtain rfl:x=p:=by simpa using h
   exact⟨rfl,rfl⟩
  ·obtain⟨h1,h2⟩:=Jr7 (P:=P) (i:=i) (by simpa using h)
   rw [List.getElem?_append_right (by simp [enC];omega),List.getElem?_append_right (by simp [enC];omega)];exact⟨by rw [←h1];congr 1;simp [enC];omega,by rw [←h2];congr 1;simp [enC];omega⟩
def Enr (w:World) (B:Nat) (v:Value) (l:List (ByteArray×Int)):Prop:=w.ownsRow B 373 2 v l.length (l.flatMap enC)
theorem Enr.nil (w:World) (B:Nat):Enr w B (.slice none 0 0) []:=World.ownsRow_nil _ _ _ _
theorem Enr.kept {S:TypeId→Prop} {B':Nat} {w w':World} {B:Nat} {v:Value} {l:List (ByteArray×Int)} (h:Enr w B v l) (hk:Kept S B' w w') (hS:¬S 373):Enr w' B v l:=hk.own h hS
theorem Enr.later {w w':World} {B:Nat} {v:Value} {l:List (ByteArray×Int)} (h:Enr w B v l) (hb:Below w.heap.size w w'):Enr w' B v l:=h.kept (Kept.of_below hb (fun _=>False) 0) (fun hc=>hc)
theorem Enr.mono {w:World} {B B':Nat} {v:Value} {l:List (ByteArray×Int)} (h:Enr w B v l) (hB:B'≤B):Enr w B' v l:=own_mono h hB
theorem Enr.lt {w:World} {B:Nat} {v:Value} {l:List (ByteArray×Int)} (h:Enr w B v l):∀b,v.ownBlock=some b→B≤b∧b<w.heap.size:=fun b hb=>World.ownsRow.lt h b hb
theorem Enr.at {w:World} {B c:Nat} {A:Option Addr} {l:List (ByteArray×Int)} (h:Enr w B (.slice A l.length c) l) {i:Nat} {p:ByteArray×Int} (hp:l[i]?=some p):
  ∃b,A=some ⟨b,0,none⟩∧b<w.heap.size∧w.cell? ⟨b,i*2,none⟩=some (.string p.1)∧w.cell? ⟨b,i*2+1,none⟩=some (.int .i64 p.2):=by
 obtain⟨h1,h2⟩:=Jr7 hp;obtain⟨g,c',hv,_,hlt,hc⟩:=own_at h h1;obtain⟨g',c'',hv',_,_,hc'⟩:=own_at h h2;injection hv with hv;injection hv' with hv';subst hv;injection hv' with hv';injection hv' with hv';subst hv';exact⟨g,rfl,hlt,hc,hc'⟩
theorem infoEn:(Tryz.prog.info? 373).map (fun i=>(i.zero,i.size,i.bytes))=some (some (.agg #[.string ⟨#[]⟩,.int .i64 0]),2,24):=by kernel_rfl
theorem Jvw:∀{P:List (ByteArray×Int)} {j:Nat} {u:Value},(P.flatMap enC)[j]?=some u→∃i p,P[i]?=some p∧((j=i*2∧u= .string p.1)∨(j=i*2+1∧u= .int .i64 p.2))
 |[],j,u,h=>by simp at h
 |x::P,j,u,h=>by
  rw [List.flatMap_cons] at h;rcases j with _ |_ |j
  ·exact⟨0,x,rfl,.inl ⟨rfl,by simpa [enC] using h.symm⟩⟩
  ·exact⟨0,x,rfl,.inr ⟨rfl,by simpa [enC] using h.symm⟩⟩
  ·rw [List.getElem?_append_right (by simp [enC])] at h
   obtain⟨i,p,h1,h2⟩:=Jvw (P:=P) (j:=j) (by simpa [enC] using h);exact⟨i+1,p,by simpa using h1,h2.imp (fun⟨a,b⟩=>⟨by omega,b⟩) (fun⟨a,b⟩=>⟨by omega,b⟩)⟩
def Enrd (l:List (ByteArray×Int)) (w:World) (e:Ending) (w':World):Prop:=(∃A c,e= .returned (.slice A l.length c)∧Enr w' w.heap.size (.slice A l.length c) l)∧Below w.heap.size w w'
theorem Jfj (lo:Nat) (A:Option Addr) (c:Nat) (P:List (ByteArray×Int)) (w:World) (hp:Enr w lo (.slice A P.length c) P) (hl:P.length≤1000000):
  Calls prog 266 #[.slice A P.length c] w (Enrd P w):=by
 obtain⟨i0,hi,hz0,hz1,hz2⟩:=info_three infoEn;rcases A with _ |ad
 ·have hP:P=[]:=by
   rcases P with _ |⟨p,P⟩
   ·rfl
   ·obtain⟨b,h1,_⟩:=hp.at (i:=0) (p:=p) rfl
    cases h1
  subst hP;have heq0:=fun wx=>Lib.run_eql_slice_nil (P:=prog) wx 203 373 none 0 c 0 0 underlying203;clear hp hl hz0 hz1 hz2 hi;go_enter func266,ntmps266
  go_wp2_with fail
  go_ret
  exact⟨⟨none,0,rfl,Enr.nil _ _⟩,Below.refl _ _⟩
 ·have heq:=fun wx=>Lib.run_eql_slice_nil (P:=prog) wx 203 373 (some ad) P.length c 0 0 underlying203
  have hnews:Hid (∀j u,(P.flatMap enC)[j]?=some u→(w.alloc (.cells #[] 373)).cell? (ad.add j)=some u):=hid fun j u hu=>by
   obtain⟨i,p,hip,hj⟩:=Jvw hu;obtain⟨b,hA,hB,hc1,hc2⟩:=hp.at hip;injection hA with hA;subst hA;rw [add_place];have hbl:=(Below.refl w.heap.size w).alloc (Nat.le_refl _) (.cells #[] 373);rcases hj with⟨rfl,rfl⟩ |⟨rfl,rfl⟩
   ·rw [Nat.zero_add]
    exact (hbl.cell (p:=⟨b,i*2,none⟩) hB).trans hc1
   ·rw [Nat.zero_add]
    exact (hbl.cell (p:=⟨b,i*2+1,none⟩) hB).trans hc2
  have HOne:=hid (Jwj P);have HLen:=hid (Jv8 P);clear hp;go_enter func266,ntmps266
  go_wp2_with (at_builtin;refine wpList_append_own _ rfl (.tmp 5) (.tmp 6) 203 rfl w.heap.size 373 i0 _ 2 24 underlying203 hi hz0 hz1 hz2 rfl (by omega) (.slice (some ⟨w.heap.size,0,none⟩) 0 0) 0 [] rfl (World.ownsRow_made w #[] 0 (Nat.le_refl _) (by decide) rfl) ad P.length c (P.flatMap enC) rfl HLen.out hnews.out HOne.out (by simp only [maxLen];omega) (by omega) (by simp) ?_;intro v4 w4 hown4 hgrow hnil4)
  rw [Nat.zero_add,List.nil_append] at hown4;obtain⟨A4,c4,rfl,h1,h2,_⟩:=own_facts hown4;have HO4:=hid hown4;have HB4:=hid (keep_grown (S:=w.heap.size) ((Below.refl w.heap.size w).alloc (Nat.le_refl _) (.cells #[] 373)) (World.ownsRow_made w #[] 0 (Nat.le_refl _) (by decide) rfl:(w.alloc (.cells #[] 373)).ownsRow w.heap.size 373 2 _ 0 []) hgrow (Nat.le_refl _) (Nat.le_refl _));clear hown4 hgrow hnil4;go_wp2_with fail
  go_ret
  exact⟨⟨A4,c4,rfl,HO4.out⟩,HB4.out⟩

def gsOf (C:List Cc):List Nat:=C.map (·.g)
theorem Jl8 (gs:List Nat) (r:Nat):gsOf (news gs r)=gs:=by
 unfold gsOf news;rw [List.map_map];exact List.map_id' gs
theorem Jrk {C:List Cc} {i:Nat} {c:Cc} (h:C[i]?=some c) (bo:Option Nat) (L:List (ByteArray×Lst)):gsOf (C.set i ⟨c.g,bo,c.r,L⟩)=gsOf C:=by
 unfold gsOf;rw [List.map_set];apply List.ext_getElem?;intro j;rw [List.getElem?_set];split
 ·rename_i e
  subst e;split
  ·rw [List.getElem?_map,h];rfl
  ·rename_i hlt
   rw [List.getElem?_eq_none (by omega)]
 ·rfl
structure Lc (w:World) (B q h:Nat) (C:List Cc) (x:Int):Prop where
 lo:B≤q
 blk:w.heap[q]?=some (.cells #[ptrC h,.int .i64 x] 256 (0,0))
 shd:Shd w B h (gsOf C)
 fam:Fam w B C
def DS (t:TypeId):Prop:=t=304∨t=442∨t=256
theorem Lc.kept {S:TypeId→Prop} {B':Nat} {w w':World} {B q h:Nat} {C:List Cc} {x:Int} (d:Lc w B q h C x) (hk:Kept S B' w w') (h0:¬S 256) (h1:¬S 282) (h2:¬S 283) (h3:¬S 304) (h4:¬S 442):Lc w' B q h C x:=
 ⟨d.lo,hk.blk d.blk h0,d.shd.kept hk h1 h2,d.fam.kept hk h3 h4⟩
theorem Lc.later {w w':World} {B q h:Nat} {C:List Cc} {x:Int} (d:Lc w B q h C x) (hb:Below w.heap.size w w'):Lc w' B q h C x:=
 d.kept (Kept.of_below hb (fun _=>False) 0) (fun hc=>hc) (fun hc=>hc) (fun hc=>hc) (fun hc=>hc) (fun hc=>hc)
theorem LS.ds {t:TypeId} (h:LS t):DS t:=h.imp_right .inl
theorem Lc.left {w w':World} {B q h i:Nat} {C:List Cc} {c:Cc} {x:Int} {L':List (ByteArray×Lst)} (d:Lc w B q h C x) (hi:C[i]?=some c) (hl:lrl.Left w B c.g c.r c.bo L' w') (hok:Ok L' c.r):
  (∃bo',Lc w' B q h (C.set i ⟨c.g,bo',c.r,L'⟩) x)∧Kept LS B w w':=by
 have hk:=d.fam.left_kept hi hl;obtain⟨bo',hf⟩:=d.fam.left hi hl hok;refine⟨⟨bo',d.lo,hk.blk d.blk (by unfold LS;decide),?_,hf⟩,hk⟩;rw [Jrk hi];exact d.shd.kept hk (by unfold LS;decide) (by unfold LS;decide)
theorem Lc.count {w:World} {B q h:Nat} {C:List Cc} {x:Int} (d:Lc w B q h C x) (x':Int):
  Lc (w.setCell ⟨q,1,none⟩ (.int .i64 x')) B q h C x'∧Kept (fun t=>t=256) B w (w.setCell ⟨q,1,none⟩ (.int .i64 x')):=by
 have hk:Kept (fun t=>t=256) B w (w.setCell ⟨q,1,none⟩ (.int .i64 x')):=(Kept.refl (fun t=>t=256) _ _).setCell (p:=⟨q,1,none⟩) d.lo ⟨_,_,_,d.blk,rfl⟩ _;refine⟨⟨d.lo,?_,d.shd.kept hk (by decide) (by decide),d.fam.kept hk (by decide) (by decide)⟩,hk⟩;exact heap_setCell_same w q 1 _ _ _ d.blk

def NewL (w:World) (n r:Nat) (e:Ending) (w':World):Prop:=∃(q h:Nat) (gs:List Nat),e= .returned (.pointer (some ⟨q,0,none⟩))∧gs.length=n∧Lc w' w.heap.size q h (news gs r) 0∧Below w.heap.size w w'
theorem lnew_any (n r:Nat) (many room:Int) (w:World) (hn:(n:Int)=min (max many 1) 256) (hr:(r:Int)=max room 1):
  Calls prog 122 #[.int .i64 many,.int .i64 room] w (NewL w n r):=by
 have HC:=hid (snew_any n r many room w hn hr);clear hn hr;go_enter func122,ntmps122
 go_wp2_with fail
 refine HC.out.mono ?_;rintro e w1 ⟨rfl,gs,hgl,hs,hf,hb⟩;obtain⟨W2,hW2⟩:=words.nm (w1.alloc (.cells #[ptrC w.heap.size,.int .i64 0] 256));have hb2:Below w1.heap.size w1 W2:=words.b1 hW2;have hk2:W2.heap[w1.heap.size]?=some (.cells #[ptrC w.heap.size,.int .i64 0] 256 (0,0)):=by rw [hW2];exact heap_alloc_new w1 _
 have HE:Hid (NewL w n r (.returned (.pointer (some ⟨w1.heap.size,0,none⟩))) W2):=hid ⟨_,_,gs,rfl,hgl,⟨hb.size,hk2,by rw [Jl8];exact hs.later hb2,hf.later hb2⟩,hb.trans (hb2.mono hb.size)⟩;rw [hW2] at HE;unfold ptrC at HE;clear hgl hs hf hb hb2 hk2 hW2;go_wp2_with fail
 go_ret
 exact HE.out
end Go.Proofs.YtekekhgjobahaaaGreatDoor.lca
