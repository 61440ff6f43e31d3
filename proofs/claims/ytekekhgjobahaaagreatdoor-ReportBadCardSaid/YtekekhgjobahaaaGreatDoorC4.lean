import Derived.Test.YtekekhgjobahaaaGreatDoorA4
import Derived.Test.YtekekhgjobahaaaGreatDoorB7
import Derived.Test.YtekekhgjobahaaaGreatDoorC1
import Derived.Test.YtekekhgjobahaaaGreatDoorC3
set_option maxHeartbeats 12800000
set_option maxRecDepth 100000
open Go.Lib (hid)
open Go.Proofs.Tryz
namespace Go.Proofs.YtekekhgjobahaaaGreatDoor.svr
open Go.RowKit words

structure Frm (T:TypeId→Prop) (M:Nat→Prop) (w w':World):Prop where
 os:w'.os=w.os
 tape:w'.tape=w.tape
 output:w'.output=w.output
 size:w.heap.size≤w'.heap.size
 block:∀k,k<w.heap.size→¬M k→(∀cs t f,w.heap[k]?=some (.cells cs t f)→¬T t)→w'.heap[k]?=w.heap[k]?
 map:∀k,M k→∀cs t f,w.heap[k]?≠some (.cells cs t f)
theorem Frm.of_kept {T:TypeId→Prop} {B:Nat} {w w':World} (h:Kept T B w w'):Frm T (fun _=>False) w w':=⟨h.os,h.tape,h.output,h.size,fun k hk _ hc=>h.block k hk (.inr hc),fun _ h=>h.elim⟩
theorem Frm.of_below {w w':World} (h:Below w.heap.size w w'):Frm (fun _=>False) (fun _=>False) w w':=⟨h.os,h.tape,h.output,h.size,fun k hk _ _=>h.block k hk,fun _ h=>h.elim⟩
section
variable {T:TypeId→Prop} {M:Nat→Prop} {w w':World}
theorem Frm.blk (m:Frm T M w w') {k:Nat} {cs:Array Value} {t:TypeId} {f:Nat×Nat} (h:w.heap[k]?=some (.cells cs t f)) (ht:¬T t):w'.heap[k]?=some (.cells cs t f):=
 (m.block k (lt_of_some h) (fun e=>m.map k e _ _ _ h) (fun cs' t' f' he=>by rw [h] at he;injection he with he;injection he with _ he _;rw [←he];exact ht)).trans h
theorem Frm.own (m:Frm T M w w') {base:Nat} {e:TypeId} {size n:Nat} {v:Value} {xs:List Value} (ho:w.ownsRow base e size v n xs) (hT:¬T e):w'.ownsRow base e size v n xs:=by
 refine⟨ho.1,?_⟩;rcases ho.2 with hz |⟨b,c,cur,hv,hB,hh,h1,h2,h3,h4⟩
 ·exact .inl hz
 ·exact .inr ⟨b,c,cur,hv,hB,m.blk hh hT,h1,h2,h3,h4⟩
theorem Frm.tn (m:Frm T M w w'):lru.Tn (fun k=>w'.heap[k]?≠w.heap[k]?) w w':=⟨m.os,m.tape,m.output,m.size,fun k _ hn=>by
  rcases Classical.em (w'.heap[k]?=w.heap[k]?) with h |h
  ·exact h
  ·exact absurd h hn⟩
theorem Frm.same (m:Frm T M w w') {k:Nat} {cs:Array Value} {t:TypeId} {f:Nat×Nat} (h:w.heap[k]?=some (.cells cs t f)) (ht:¬T t):¬w'.heap[k]?≠w.heap[k]?:=fun hn=>hn ((m.blk h ht).trans h.symm)
theorem Frm.mapL (m:Frm T M w w') {κ:Type} [DecidableEq κ] {kl:κ→Lit} {P:Program} {k:TypeId} {b:Nat} {L:List (κ×Value)} (h:mpk.MapL kl w P k b L) (hb:¬M b):mpk.MapL kl w' P k b L:=
 h.of_block (m.block b h.lt hb fun cs t f he=>absurd he (h.not cs t f))
theorem Frm.dca (m:Frm T M w w') {B q h:Nat} {C:List shd.Cc} {x y:Int} (d:dca.Dc w B q h C x y) (h0:¬T 250) (h1:¬T 277) (h2:¬T 278) (h3:¬T 301) (h4:¬T 447):dca.Dc w' B q h C x y:=by
 refine⟨d.lo,m.blk d.blk h0,?_,⟨fun i c hc=>?_,d.fam.ok,d.fam.apart⟩⟩
 ·obtain⟨k0,v,hb,ho⟩:=d.shd
  exact⟨k0,v,m.blk hb h1,m.own ho h2⟩
 ·have hl:=d.fam.lru i c hc
  exact hl.tn m.tn fun k hk=>by
   obtain⟨_,cs,t,f,e1,e2⟩:=hl.types _ hk;refine m.same e1 ?_;rcases e2 with rfl |rfl
   ·exact h3
   ·exact h4
theorem Frm.lca (m:Frm T M w w') {B q h:Nat} {C:List shl.Cc} {x:Int} (d:lca.Lc w B q h C x) (h0:¬T 256) (h1:¬T 282) (h2:¬T 283) (h3:¬T 304) (h4:¬T 442):lca.Lc w' B q h C x:=by
 refine⟨d.lo,m.blk d.blk h0,?_,⟨fun i c hc=>?_,d.fam.ok,d.fam.apart⟩⟩
 ·obtain⟨k0,v,hb,ho⟩:=d.shd
  exact⟨k0,v,m.blk hb h1,m.own ho h2⟩
 ·have hl:=d.fam.lru i c hc
  exact hl.tn m.tn fun k hk=>by
   obtain⟨_,cs,t,f,e1,e2⟩:=hl.types _ hk;refine m.same e1 ?_;rcases e2 with rfl |rfl
   ·exact h3
   ·exact h4
theorem Frm.spc (m:Frm T M w w') {B s t mm:Nat} {A:Option Addr} {c:Nat} {L:List (Nat×Int)} {ad ep r n:Int} {C:cur.Cs} (h:spc.Sp B s t mm A c L ad ep r n C w) (h0:¬T 92) (h1:¬T 128) (h2:¬M mm):spc.Sp B s t mm A c L ad ep r n C w':=by
 refine⟨h.ge,m.blk h.blk h0,h.tb.tn m.tn fun j hj=>?_⟩;obtain⟨_,_,k3,k4⟩:=h.tb;rcases hj with rfl |rfl
 ·exact m.same k3 h1
 ·exact fun hn=>hn (m.block j k4.lt h2 fun cs t f he=>absurd he (k4.not cs t f))
end
structure Bk where
 v:Nat
 s:Nat
 t:Nat
 m:Nat
 q:Nat
 h:Nat
 q2:Nat
 h2:Nat
 mp:Nat
structure Sd where
 A:Option Addr
 c:Nat
 L:List (Nat×Int)
 ad:Int
 ep:Int
 r:Int
 n:Int
 C:cur.Cs
 g1:Value
 g2:Int
 g3:Bool
 g4:Value
 g5:Int
 N:List shd.Cc
 x:Int
 y:Int
 Ls:List shl.Cc
 z:Int
 K:List (Lk×Int)
abbrev Locks (w:World) (b:Nat) (K:List (Lk×Value)):Prop:=mpk.MapL (kl0 prog 357) w prog 357 b K
structure Sv (w:World) (B:Nat) (b:Bk) (d:Sd):Prop where
 ge:B≤b.v
 blk:w.heap[b.v]?=some (.cells #[.pointer (some ⟨b.s,0,none⟩),d.g1,.int .i64 d.g2,.bool d.g3,d.g4,.int .i64 d.g5,.pointer (some ⟨b.q,0,none⟩),.pointer (some ⟨b.q2,0,none⟩),.map (some b.mp)] 89 (0,0))
 st:spc.Sp B b.s b.t b.m d.A d.c d.L d.ad d.ep d.r d.n d.C w
 dc:dca.Dc w B b.q b.h d.N d.x d.y
 lc:lca.Lc w B b.q2 b.h2 d.Ls d.z
 lk:Locks w b.mp (kR d.K)
 mp:B≤b.mp
 ne:b.mp≠b.m
theorem Sv.later {w w':World} {B:Nat} {b:Bk} {d:Sd} (h:Sv w B b d) (hb:Below w.heap.size w w'):Sv w' B b d:=
 have m:=Frm.of_below hb
 ⟨h.ge,m.blk h.blk (fun h=>h),m.spc h.st (fun h=>h) (fun h=>h) (fun h=>h),m.dca h.dc (fun h=>h) (fun h=>h) (fun h=>h) (fun h=>h) (fun h=>h),m.lca h.lc (fun h=>h) (fun h=>h) (fun h=>h) (fun h=>h) (fun h=>h),m.mapL h.lk (fun h=>h),h.mp,h.ne⟩
theorem Sv.lt {w:World} {B:Nat} {b:Bk} {d:Sd} (h:Sv w B b d):b.v<w.heap.size∧b.mp<w.heap.size:=⟨lt_of_some h.blk,h.lk.lt⟩
theorem Jch {B B' s t m:Nat} {A:Option Addr} {c:Nat} {L:List (Nat×Int)} {ad ep r n:Int} {C:cur.Cs} {w:World} (h:spc.Sp B' s t m A c L ad ep r n C w) (hB:B≤B'):spc.Sp B s t m A c L ad ep r n C w:=⟨Nat.le_trans hB h.ge,h.blk,spc.tb_base h.tb hB⟩
theorem Jce {w:World} {B B':Nat} {e:TypeId} {size n:Nat} {v:Value} {xs:List Value} (h:w.ownsRow B' e size v n xs) (hB:B≤B'):w.ownsRow B e size v n xs:=by
 refine⟨h.1,?_⟩;rcases h.2 with hz |⟨b,c,cur,hv,hb,r⟩
 ·exact .inl hz
 ·exact .inr ⟨b,c,cur,hv,Nat.le_trans hB hb,r⟩
theorem Jiq {w:World} {B B' q h:Nat} {C:List shd.Cc} {x y:Int} (d:dca.Dc w B' q h C x y) (hB:B≤B'):dca.Dc w B q h C x y:=by
 refine⟨Nat.le_trans hB d.lo,d.blk,?_,⟨fun i c hc=>?_,d.fam.ok,d.fam.apart⟩⟩
 ·obtain⟨k0,v,hb,ho⟩:=d.shd
  exact⟨Nat.le_trans hB k0,v,hb,Jce ho hB⟩
 ·obtain⟨k0,v,e,hb,ho⟩:=d.fam.lru i c hc
  exact⟨Nat.le_trans hB k0,v,e,hb,Jce ho hB⟩
theorem Jh8 {w:World} {B B' q h:Nat} {C:List shl.Cc} {x:Int} (d:lca.Lc w B' q h C x) (hB:B≤B'):lca.Lc w B q h C x:=by
 refine⟨Nat.le_trans hB d.lo,d.blk,?_,⟨fun i c hc=>?_,d.fam.ok,d.fam.apart⟩⟩
 ·obtain⟨k0,v,hb,ho⟩:=d.shd
  exact⟨Nat.le_trans hB k0,v,hb,Jce ho hB⟩
 ·obtain⟨k0,v,e,hb,ho⟩:=d.fam.lru i c hc
  exact⟨Nat.le_trans hB k0,v,e,hb,Jce ho hB⟩
def newD (A:Option Addr) (c:Nat) (L:List (Nat×Int)) (ad r:Int) (rm:Nat) (gs gs2:List Nat):Sd:=⟨A,c,L,ad,0,r,0,[],.map none,0,false,.map none,0,shd.news gs rm,0,0,shl.news gs2 rm,0,[]⟩
def MadeV (A:Option Addr) (c:Nat) (L:List (Nat×Int)) (ad r:Int) (n rm:Nat) (w:World) (e:Ending) (w':World):Prop:=
 ∃(b:Bk) (gs gs2:List Nat),e= .returned (.pointer (some ⟨b.v,0,none⟩))∧gs.length=n∧gs2.length=n∧Sv w' w.heap.size b (newD A c L ad r rm gs gs2)∧Below w.heap.size w w'
theorem vnew_any (A:Option Addr) (c:Nat) (L:List (Nat×Int)) (ad sh rm cu r:Int) (n R:Nat) (w:World) (hn:(n:Int)=min (max sh 1) 256) (hR:(R:Int)=max rm 1) (hr:r=min (max cu 1) 1024):
  Calls prog 77 #[.agg #[.slice A L.length c,.int .i64 ad],.agg #[.int .i64 sh,.int .i64 rm,.int .i64 cu]] w (MadeV A c L ad r n R w):=by
 obtain⟨Wa,hWa⟩:=words.nm (w.alloc (.cells #[.slice A L.length c,.int .i64 ad] 38));obtain⟨W1,hW1⟩:=words.nm (Wa.alloc (.cells #[.int .i64 sh,.int .i64 rm,.int .i64 cu] 26));have hba:=words.b1 hWa;have hbb:Below Wa.heap.size Wa W1:=words.b1 hW1;have hb1:Below w.heap.size w W1:=hba.trans (hbb.mono hba.size);have hxa:W1.heap[w.heap.size]?=some (.cells #[.slice A L.length c,.int .i64 ad] 38 (0,0)):=(hbb.block _ (by rw [hWa];simp)).trans (by rw [hWa];exact heap_alloc_new w _);obtain⟨g1,hg1⟩:=words.nm (Wa.heap.size);have hxb:W1.heap[g1]?=some (.cells #[.int .i64 sh,.int .i64 rm,.int .i64 cu] 26 (0,0)):=by rw [hW1,hg1];exact heap_alloc_new Wa _
 have hge:w.heap.size+1=g1:=by rw [hg1,hWa];simp
 have HSS:Hid (∀w':World,Below W1.heap.size W1 w'→(w'.cell? ⟨w.heap.size,0,none⟩=some (.slice A L.length c)∧w'.cell? ⟨w.heap.size,1,none⟩=some (.int .i64 ad)∧w'.cell? ⟨g1,0,none⟩=some (.int .i64 sh)∧w'.cell? ⟨g1,1,none⟩=some (.int .i64 rm)∧w'.cell? ⟨g1,2,none⟩=some (.int .i64 cu)∧Below W1.heap.size W1 w')):=hid fun w' hb=>by
  have e1:=(hb.block _ (lt_of_some hxa)).trans hxa;have e2:=(hb.block _ (lt_of_some hxb)).trans hxb;exact⟨Jaa e1 0,Jaa e1 1,Jaa e2 0,Jaa e2 1,Jaa e2 2,hb⟩
 have HS:Hid (∀w':World,Calls prog 54 #[.agg #[.slice A L.length c,.int .i64 ad],.int .i64 cu] w' (spc.MadeS w' A c L ad r)):=hid fun w'=>spc.snew_any A c L ad cu r w' hr;have HD:Hid (∀w':World,Calls prog 121 #[.int .i64 sh,.int .i64 rm] w' (dca.NewD w' n R)):=hid fun w'=>dca.dnew_any n R sh rm w' hn hR;have HL:Hid (∀w':World,Calls prog 122 #[.int .i64 sh,.int .i64 rm] w' (lca.NewL w' n R)):=hid fun w'=>lca.lnew_any n R sh rm w' hn hR;have hfin:∀(v:World) (s t m q h q2 h2 mp:Nat) (gs gs2:List Nat),spc.Sp w.heap.size s t m A c L ad 0 r 0 [] v→gs.length=n→dca.Dc v w.heap.size q h (shd.news gs R) 0 0→gs2.length=n→lca.Lc v w.heap.size q2 h2 (shl.news gs2 R) 0→(Locks v mp []∧w.heap.size≤mp)→mp≠m→Below W1.heap.size W1 v→
   MadeV A c L ad r n R w (.returned (.pointer (some ⟨v.heap.size,0,none⟩))) (v.alloc (.cells #[.pointer (some ⟨s,0,none⟩),.map none,.int .i64 0,.bool false,.map none,.int .i64 0,.pointer (some ⟨q,0,none⟩),.pointer (some ⟨q2,0,none⟩),.map (some mp)] 89)):=fun v s t m q h q2 h2 mp gs gs2 hs hg hd hg2 hl hm hne hb=>by
  have hbv:=(Below.refl v.heap.size v).alloc (Nat.le_refl _) (.cells #[.pointer (some ⟨s,0,none⟩),.map none,.int .i64 0,.bool false,.map none,.int .i64 0,.pointer (some ⟨q,0,none⟩),.pointer (some ⟨q2,0,none⟩),.map (some mp)] 89);have hbw:=hb1.trans (hb.mono hb1.size);exact⟨⟨v.heap.size,s,t,m,q,h,q2,h2,mp⟩,gs,gs2,rfl,hg,hg2,⟨hbw.size,heap_alloc_new v _,hs.later hbv,hd.later hbv,hl.later hbv,(Frm.of_below hbv).mapL hm.1 (fun h=>h),hm.2,hne⟩,hbw.trans (hbv.mono hbw.size)⟩
 have hbd:Below W1.heap.size W1 W1.drew:=(Below.refl _ _).drew;have hsz:w.heap.size≤W1.heap.size:=hb1.size;rw [hWa] at hW1;have HW1:=hid hW1;have HGe:=hid hge;clear hWa hW1 hba hbb hb1 hxa hxb hg1 hge hn hR hr;go_enter func77,ntmps77
 go_upto_region 1 with fail
 rw [←HW1.out];simp only [HGe.out];clear HW1 HGe;refine wp_region_held_drew (S:=fun w'=>(w'.cell? ⟨w.heap.size,0,none⟩=some (.slice A L.length c)∧w'.cell? ⟨w.heap.size,1,none⟩=some (.int .i64 ad)∧w'.cell? ⟨g1,0,none⟩=some (.int .i64 sh)∧w'.cell? ⟨g1,1,none⟩=some (.int .i64 rm)∧w'.cell? ⟨g1,2,none⟩=some (.int .i64 cu)∧Below W1.heap.size W1 w')) (by kernel_rfl) (HSS.out _ hbd) (fun hHeld=>?_);refine words.tk 0 5 (v:=?_) ?_ ?_
 rotate_left 1
 ·intro _ h;(try dsimp only at h);go_simp;(try with_reducible rfl)
 try simp only [words.pt]
 refine words.tk 1 6 (v:=?_) ?_ ?_
 rotate_left 1
 ·intro _ h;(try dsimp only at h);go_simp;(try with_reducible rfl)
 try simp only [words.pt]
 refine words.tk 2 7 (v:=?_) ?_ ?_
 rotate_left 1
 ·intro _ h;(try dsimp only at h);go_simp;(try with_reducible rfl)
 try simp only [words.pt]
 refine words.tk 4 9 (v:=?_) ?_ ?_
 rotate_left 1
 ·intro _ h;(try dsimp only at h);go_simp;(try with_reducible rfl)
 try simp only [words.pt]
 refine words.tk 5 10 (v:=?_) ?_ ?_
 rotate_left 1
 ·intro _ h;(try dsimp only at h);go_simp;(try with_reducible rfl)
 try simp only [words.pt]
 refine words.tk 6 11 (v:=?_) ?_ ?_
 rotate_left 1
 ·intro _ h;(try dsimp only at h);go_simp;(try with_reducible rfl)
 try simp only [words.pt]
 refine words.tk 7 12 (v:=?_) ?_ ?_
 rotate_left 1
 ·intro _ h;(try dsimp only at h);go_simp;(try with_reducible rfl)
 try simp only [words.pt]
 refine words.tk 9 14 (v:=?_) ?_ ?_
 rotate_left 1
 ·intro _ h;(try dsimp only at h);go_simp;(try with_reducible rfl)
 try simp only [words.pt]
 refine words.tk 10 15 (v:=?_) ?_ ?_
 rotate_left 1
 ·intro _ h;(try dsimp only at h);go_simp;(try with_reducible rfl)
 try simp only [words.pt]
 refine words.tk 11 16 (v:=?_) ?_ ?_
 rotate_left 1
 ·intro _ h;(try dsimp only at h);go_simp;(try with_reducible rfl)
 try simp only [words.pt]
 refine words.tk 12 17 (v:=?_) ?_ ?_
 rotate_left 1
 ·intro _ h;(try dsimp only at h);go_simp;(try with_reducible rfl)
 try simp only [words.pt]
 refine wpAnyH_ready (rs:=[3,14]) (by kernel_rfl) (by simp) ?_;refine AllReadyH.cons rfl (fun K hK=>?_) (AllReadyH.cons rfl (fun K hK=>?_) AllReadyH.nil)
 ·go_simp
  go_at_call 54
  refine (HS.out W1.drew).mono ?_;rintro en v3 ⟨s,t,m,rfl,hsp,hqv3⟩;have hbv3:Below W1.heap.size W1 v3:=hbd.trans (hqv3.mono hbd.size);clear hHeld;refine hK.out _ _ (HSS.out _ hbv3) (fun hHeld=>?_);clear hK;refine wpAnyH_ready (rs:=[8,14]) (by kernel_rfl) (by simp) ?_;refine AllReadyH.cons rfl (fun K hK=>?_) (AllReadyH.cons rfl (fun K hK=>?_) AllReadyH.nil)
  ·go_simp
   go_at_call 121
   refine (HD.out v3).mono ?_;rintro en v8 ⟨q,h,gs,rfl,hgs,hdc,hqv8⟩;have hbv8:Below W1.heap.size W1 v8:=hbv3.trans (hqv8.mono hbv3.size);clear hHeld;refine hK.out _ _ (HSS.out _ hbv8) (fun hHeld=>?_);clear hK;refine wpAnyH_ready (rs:=[13,14]) (by kernel_rfl) (by simp) ?_;refine AllReadyH.cons rfl (fun K hK=>?_) (AllReadyH.cons rfl (fun K hK=>?_) AllReadyH.nil)
   ·go_simp
    go_at_call 122
    refine (HL.out v8).mono ?_;rintro en v13 ⟨q2,h2,gs2,rfl,hgs2,hlc,hqv13⟩;have hbv13:Below W1.heap.size W1 v13:=hbv8.trans (hqv13.mono hbv8.size);clear hHeld;refine hK.out _ _ (HSS.out _ hbv13) (fun hHeld=>?_);clear hK;refine wpAnyH_ready (rs:=[14]) (by kernel_rfl) (by simp) (.cons rfl (fun K hK=>?_) .nil);have hmm:=@run_makeMap prog;go_simp
    clear hmm;clear hHeld;obtain⟨v13m,hv13m⟩:=words.nm (v13.alloc (.map #[] 0));have hqv13m:Below v13.heap.size v13 v13m:=words.b1 hv13m;obtain⟨mp,hmpe⟩:=words.nm (v13.heap.size);have hmpl:Locks v13m mp []:=by rw [hv13m,hmpe];exact mpk.MapL.made _ _ _
    have hmpb:w.heap.size≤mp:=by rw [hmpe];exact Nat.le_trans hsz hbv13.size
    have hmpcv13m:Locks v13m mp []∧w.heap.size≤mp:=And.intro hmpl hmpb;have Hmpe:=hid hmpe;clear hmpl hmpb;rw [←hmpe,←hv13m];have hbv13m:Below W1.heap.size W1 v13m:=hbv13.trans (hqv13m.mono hbv13.size);have HVv13m:=hid hv13m;clear hmpe hv13m;refine hK.out _ _ (HSS.out _ hbv13m) (fun hHeld=>?_);clear hK;have hnev13m:mp≠m:=by have:=(((Jch hsp (Nat.le_trans hsz hbd.size)).later hqv8).later hqv13).tb.2.2.2.lt;rw [Hmpe.out];exact Nat.ne_of_gt this
    refine words.tk 15 20 (v:=?_) ?_ ?_
    rotate_left 1
    focus (intro w' hSw;clear hSw;go_simp;(try with_reducible rfl))
    try simp only [words.pt]
    refine wpAnyH_ready (rs:=[16]) (by kernel_rfl) (by simp) (.cons rfl (fun K hK=>?_) .nil);go_simp
    clear hHeld;refine hK.out _ _ (HSS.out _ (hbv13m.alloc hbv13m.size _)) (fun hHeld=>?_);clear hK;refine words.tk 17 4 (v:=?_) ?_ ?_
    rotate_left 1
    focus (intro w' hSw;clear hSw;go_simp;(try with_reducible rfl))
    try simp only [words.pt]
    refine wpAnyH_done (by kernel_rfl) ?_ _;clear hHeld;have HE:=hid (hfin v13m s t m q h q2 h2 mp gs gs2 ((((Jch hsp (Nat.le_trans hsz hbd.size)).later hqv8).later hqv13).later hqv13m) hgs (((Jiq hdc (Nat.le_trans hsz hbv3.size)).later hqv13).later hqv13m) hgs2 ((Jh8 hlc (Nat.le_trans hsz hbv8.size)).later hqv13m) (hmpcv13m) hnev13m hbv13m);go_wp2_with fail
    go_ret
    exact HE.out
   ·have hmm:=@run_makeMap prog
    go_simp
    clear hmm;clear hHeld;obtain⟨v8m,hv8m⟩:=words.nm (v8.alloc (.map #[] 0));have hqv8m:Below v8.heap.size v8 v8m:=words.b1 hv8m;obtain⟨mp,hmpe⟩:=words.nm (v8.heap.size);have hmpl:Locks v8m mp []:=by rw [hv8m,hmpe];exact mpk.MapL.made _ _ _
    have hmpb:w.heap.size≤mp:=by rw [hmpe];exact Nat.le_trans hsz hbv8.size
    have hmpcv8m:Locks v8m mp []∧w.heap.size≤mp:=And.intro hmpl hmpb;have Hmpe:=hid hmpe;clear hmpl hmpb;rw [←hmpe,←hv8m];have hbv8m:Below W1.heap.size W1 v8m:=hbv8.trans (hqv8m.mono hbv8.size);have HVv8m:=hid hv8m;clear hmpe hv8m;refine hK.out _ _ (HSS.out _ hbv8m) (fun hHeld=>?_);clear hK;have hnev8m:mp≠m:=by have:=((Jch hsp (Nat.le_trans hsz hbd.size)).later hqv8).tb.2.2.2.lt;rw [Hmpe.out];exact Nat.ne_of_gt this
    refine wpAnyH_ready (rs:=[13]) (by kernel_rfl) (by simp) (.cons rfl (fun K hK=>?_) .nil);go_simp
    go_at_call 122
    refine (HL.out v8m).mono ?_;rintro en v13m ⟨q2,h2,gs2,rfl,hgs2,hlc,hqv13m⟩;have hbv13m:Below W1.heap.size W1 v13m:=hbv8m.trans (hqv13m.mono hbv8m.size);clear hHeld;refine hK.out _ _ (HSS.out _ hbv13m) (fun hHeld=>?_);clear hK;have hmpcv13m:Locks v13m mp []∧w.heap.size≤mp:=And.intro ((Frm.of_below hqv13m).mapL hmpcv8m.1 (fun h=>h)) hmpcv8m.2;refine words.tk 15 20 (v:=?_) ?_ ?_
    rotate_left 1
    focus (intro w' hSw;clear hSw;go_simp;(try with_reducible rfl))
    try simp only [words.pt]
    refine wpAnyH_ready (rs:=[16]) (by kernel_rfl) (by simp) (.cons rfl (fun K hK=>?_) .nil);go_simp
    clear hHeld;refine hK.out _ _ (HSS.out _ (hbv13m.alloc hbv13m.size _)) (fun hHeld=>?_);clear hK;refine words.tk 17 4 (v:=?_) ?_ ?_
    rotate_left 1
    focus (intro w' hSw;clear hSw;go_simp;(try with_reducible rfl))
    try simp only [words.pt]
    refine wpAnyH_done (by kernel_rfl) ?_ _;clear hHeld;have HE:=hid (hfin v13m s t m q h q2 h2 mp gs gs2 ((((Jch hsp (Nat.le_trans hsz hbd.size)).later hqv8).later hqv8m).later hqv13m) hgs (((Jiq hdc (Nat.le_trans hsz hbv3.size)).later hqv8m).later hqv13m) hgs2 (Jh8 hlc (Nat.le_trans hsz hbv8m.size)) (hmpcv13m) hnev8m hbv13m);go_wp2_with fail
    go_ret
    exact HE.out
  ·have hmm:=@run_makeMap prog
   go_simp
   clear hmm;clear hHeld;obtain⟨v3m,hv3m⟩:=words.nm (v3.alloc (.map #[] 0));have hqv3m:Below v3.heap.size v3 v3m:=words.b1 hv3m;obtain⟨mp,hmpe⟩:=words.nm (v3.heap.size);have hmpl:Locks v3m mp []:=by rw [hv3m,hmpe];exact mpk.MapL.made _ _ _
   have hmpb:w.heap.size≤mp:=by rw [hmpe];exact Nat.le_trans hsz hbv3.size
   have hmpcv3m:Locks v3m mp []∧w.heap.size≤mp:=And.intro hmpl hmpb;have Hmpe:=hid hmpe;clear hmpl hmpb;rw [←hmpe,←hv3m];have hbv3m:Below W1.heap.size W1 v3m:=hbv3.trans (hqv3m.mono hbv3.size);have HVv3m:=hid hv3m;clear hmpe hv3m;refine hK.out _ _ (HSS.out _ hbv3m) (fun hHeld=>?_);clear hK;have hnev3m:mp≠m:=by have:=(Jch hsp (Nat.le_trans hsz hbd.size)).tb.2.2.2.lt;rw [Hmpe.out];exact Nat.ne_of_gt this
   refine wpAnyH_ready (rs:=[8]) (by kernel_rfl) (by simp) (.cons rfl (fun K hK=>?_) .nil);go_simp
   go_at_call 121
   refine (HD.out v3m).mono ?_;rintro en v8m ⟨q,h,gs,rfl,hgs,hdc,hqv8m⟩;have hbv8m:Below W1.heap.size W1 v8m:=hbv3m.trans (hqv8m.mono hbv3m.size);clear hHeld;refine hK.out _ _ (HSS.out _ hbv8m) (fun hHeld=>?_);clear hK;have hmpcv8m:Locks v8m mp []∧w.heap.size≤mp:=And.intro ((Frm.of_below hqv8m).mapL hmpcv3m.1 (fun h=>h)) hmpcv3m.2;refine wpAnyH_ready (rs:=[13]) (by kernel_rfl) (by simp) (.cons rfl (fun K hK=>?_) .nil);go_simp
   go_at_call 122
   refine (HL.out v8m).mono ?_;rintro en v13m ⟨q2,h2,gs2,rfl,hgs2,hlc,hqv13m⟩;have hbv13m:Below W1.heap.size W1 v13m:=hbv8m.trans (hqv13m.mono hbv8m.size);clear hHeld;refine hK.out _ _ (HSS.out _ hbv13m) (fun hHeld=>?_);clear hK;have hmpcv13m:Locks v13m mp []∧w.heap.size≤mp:=And.intro ((Frm.of_below hqv13m).mapL hmpcv8m.1 (fun h=>h)) hmpcv8m.2;refine words.tk 15 20 (v:=?_) ?_ ?_
   rotate_left 1
   focus (intro w' hSw;clear hSw;go_simp;(try with_reducible rfl))
   try simp only [words.pt]
   refine wpAnyH_ready (rs:=[16]) (by kernel_rfl) (by simp) (.cons rfl (fun K hK=>?_) .nil);go_simp
   clear hHeld;refine hK.out _ _ (HSS.out _ (hbv13m.alloc hbv13m.size _)) (fun hHeld=>?_);clear hK;refine words.tk 17 4 (v:=?_) ?_ ?_
   rotate_left 1
   focus (intro w' hSw;clear hSw;go_simp;(try with_reducible rfl))
   try simp only [words.pt]
   refine wpAnyH_done (by kernel_rfl) ?_ _;clear hHeld;have HE:=hid (hfin v13m s t m q h q2 h2 mp gs gs2 ((((Jch hsp (Nat.le_trans hsz hbd.size)).later hqv3m).later hqv8m).later hqv13m) hgs ((Jiq hdc (Nat.le_trans hsz hbv3m.size)).later hqv13m) hgs2 (Jh8 hlc (Nat.le_trans hsz hbv8m.size)) (hmpcv13m) hnev3m hbv13m);go_wp2_with fail
   go_ret
   exact HE.out
 ·have hmm:=@run_makeMap prog
  go_simp
  clear hmm;clear hHeld;obtain⟨U0m,hU0m⟩:=words.nm ((W1.alloc (.map #[] 0)).drew);have hqU0m:Below W1.drew.heap.size W1.drew U0m:=by rw [hU0m];exact (show Below W1.drew.heap.size W1.drew (W1.drew.alloc (.map #[] 0)) from (Below.refl _ _).alloc (Nat.le_refl _) _)
  obtain⟨mp,hmpe⟩:=words.nm (W1.heap.size);have hmpl:Locks U0m mp []:=by rw [hU0m,hmpe];exact mpk.MapL.made _ _ _
  have hmpb:w.heap.size≤mp:=by rw [hmpe];exact Nat.le_trans hsz hbd.size
  have hmpcU0m:Locks U0m mp []∧w.heap.size≤mp:=And.intro hmpl hmpb;have Hmpe:=hid hmpe;clear hmpl hmpb;rw [←hmpe,←hU0m];have hbU0m:Below W1.heap.size W1 U0m:=hbd.trans (hqU0m.mono hbd.size);have HVU0m:=hid hU0m;clear hmpe hU0m;refine hK.out _ _ (HSS.out _ hbU0m) (fun hHeld=>?_);clear hK;refine wpAnyH_ready (rs:=[3]) (by kernel_rfl) (by simp) (.cons rfl (fun K hK=>?_) .nil);go_simp
  go_at_call 54
  refine (HS.out U0m).mono ?_;rintro en v3m ⟨s,t,m,rfl,hsp,hqv3m⟩;have hbv3m:Below W1.heap.size W1 v3m:=hbU0m.trans (hqv3m.mono hbU0m.size);clear hHeld;refine hK.out _ _ (HSS.out _ hbv3m) (fun hHeld=>?_);clear hK;have hmpcv3m:Locks v3m mp []∧w.heap.size≤mp:=And.intro ((Frm.of_below hqv3m).mapL hmpcU0m.1 (fun h=>h)) hmpcU0m.2;have hnev3m:mp≠m:=Nat.ne_of_lt (Nat.lt_of_lt_of_le hmpcU0m.1.lt hsp.tb.2.1);refine wpAnyH_ready (rs:=[8]) (by kernel_rfl) (by simp) (.cons rfl (fun K hK=>?_) .nil);go_simp
  go_at_call 121
  refine (HD.out v3m).mono ?_;rintro en v8m ⟨q,h,gs,rfl,hgs,hdc,hqv8m⟩;have hbv8m:Below W1.heap.size W1 v8m:=hbv3m.trans (hqv8m.mono hbv3m.size);clear hHeld;refine hK.out _ _ (HSS.out _ hbv8m) (fun hHeld=>?_);clear hK;have hmpcv8m:Locks v8m mp []∧w.heap.size≤mp:=And.intro ((Frm.of_below hqv8m).mapL hmpcv3m.1 (fun h=>h)) hmpcv3m.2;refine wpAnyH_ready (rs:=[13]) (by kernel_rfl) (by simp) (.cons rfl (fun K hK=>?_) .nil);go_simp
  go_at_call 122
  refine (HL.out v8m).mono ?_;rintro en v13m ⟨q2,h2,gs2,rfl,hgs2,hlc,hqv13m⟩;have hbv13m:Below W1.heap.size W1 v13m:=hbv8m.trans (hqv13m.mono hbv8m.size);clear hHeld;refine hK.out _ _ (HSS.out _ hbv13m) (fun hHeld=>?_);clear hK;have hmpcv13m:Locks v13m mp []∧w.heap.size≤mp:=And.intro ((Frm.of_below hqv13m).mapL hmpcv8m.1 (fun h=>h)) hmpcv8m.2;refine words.tk 15 20 (v:=?_) ?_ ?_
  rotate_left 1
  focus (intro w' hSw;clear hSw;go_simp;(try with_reducible rfl))
  try simp only [words.pt]
  refine wpAnyH_ready (rs:=[16]) (by kernel_rfl) (by simp) (.cons rfl (fun K hK=>?_) .nil);go_simp
  clear hHeld;refine hK.out _ _ (HSS.out _ (hbv13m.alloc hbv13m.size _)) (fun hHeld=>?_);clear hK;refine words.tk 17 4 (v:=?_) ?_ ?_
  rotate_left 1
  focus (intro w' hSw;clear hSw;go_simp;(try with_reducible rfl))
  try simp only [words.pt]
  refine wpAnyH_done (by kernel_rfl) ?_ _;clear hHeld;have HE:=hid (hfin v13m s t m q h q2 h2 mp gs gs2 (((Jch hsp (Nat.le_trans hsz hbU0m.size)).later hqv8m).later hqv13m) hgs ((Jiq hdc (Nat.le_trans hsz hbv3m.size)).later hqv13m) hgs2 (Jh8 hlc (Nat.le_trans hsz hbv8m.size)) (hmpcv13m) hnev3m hbv13m);go_wp2_with fail
  go_ret
  exact HE.out
end Go.Proofs.YtekekhgjobahaaaGreatDoor.svr
