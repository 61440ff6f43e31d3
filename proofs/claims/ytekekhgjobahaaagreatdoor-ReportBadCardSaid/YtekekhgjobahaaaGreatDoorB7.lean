import Derived.Test.YtekekhgjobahaaaGreatDoorA1
import Derived.Test.YtekekhgjobahaaaGreatDoorB6
set_option maxHeartbeats 3200000
set_option maxRecDepth 100000
open Go.Lib (hid)
open Go.Proofs.Tryz
namespace Go.Proofs.YtekekhgjobahaaaGreatDoor.spc
open Go.RowKit words ext name tre stk

structure Sp (B s t m:Nat) (A:Option Addr) (c:Nat) (L:List (Nat×Int)) (ad ep r n:Int) (C:cur.Cs) (w:World):Prop where
 ge:B≤s
 blk:w.heap[s]?=some (.cells #[.slice A L.length c,.int .i64 ad,.int .i64 ep,.pointer (some ⟨t,0,none⟩)] 92 (0,0))
 tb:cur.Tb w B t m r n C
section
variable {B s t m:Nat} {A:Option Addr} {c:Nat} {L:List (Nat×Int)} {ad ep r n n':Int} {C C':cur.Cs} {w w':World}
theorem Sp.later (h:Sp B s t m A c L ad ep r n C w) (hb:Below w.heap.size w w'):Sp B s t m A c L ad ep r n C w':=⟨h.ge,(hb.block _ (lt_of_some h.blk)).trans h.blk,h.tb.later hb⟩
theorem Sp.ne (h:Sp B s t m A c L ad ep r n C w):¬cur.Bk t m s:=fun hj=>absurd (h.tb.type hj h.blk) (by decide)
theorem Sp.kept (h:Sp B s t m A c L ad ep r n C w) (hk:cur.Kept w B t m r n' C' w') (hB:B≤w.heap.size):Sp B s t m A c L ad ep r n' C' w'∧Below B w w':=
 ⟨⟨h.ge,(hk.tn.block s (lt_of_some h.blk) h.ne).trans h.blk,hk.tb⟩,hk.below h.tb hB⟩
theorem Sp.lt (h:Sp B s t m A c L ad ep r n C w):s<w.heap.size∧t<w.heap.size∧m<w.heap.size:=⟨lt_of_some h.blk,(h.tb.lt t (.inl rfl)).2,(h.tb.lt m (.inr rfl)).2⟩
theorem Sp.low {q:Nat} (h:Sp B s t m A c L ad ep r n C w) (hq:s<q∧t<q∧m<q) (hb:Below q w w'):Sp B s t m A c L ad ep r n C w':=
 ⟨h.ge,(hb.block _ hq.1).trans h.blk,h.tb.tn (S:=fun j=>q≤j) ⟨hb.os,hb.tape,hb.output,hb.size,fun k hk hS=>hb.block k (Nat.lt_of_not_le hS)⟩ fun j hj=>by
   rcases hj with rfl |rfl
   ·exact Nat.not_le_of_lt hq.2.1
   ·exact Nat.not_le_of_lt hq.2.2⟩
end
theorem tb_base {w:World} {B B' t m:Nat} {r n:Int} {C:cur.Cs} (h:cur.Tb w B t m r n C) (hB:B'≤B):cur.Tb w B' t m r n C:=⟨Nat.le_trans hB h.1,Nat.le_trans hB h.2.1,h.2.2⟩
def MadeS (w:World) (A:Option Addr) (c:Nat) (L:List (Nat×Int)) (ad r:Int) (e:Ending) (w':World):Prop:=∃s t m,e= .returned (.pointer (some ⟨s,0,none⟩))∧Sp w.heap.size s t m A c L ad 0 r 0 [] w'∧Below w.heap.size w w'
theorem snew_any (A:Option Addr) (c:Nat) (L:List (Nat×Int)) (ad room r:Int) (w:World) (hr:r=min (max room 1) 1024):
  Calls prog 54 #[.agg #[.slice A L.length c,.int .i64 ad],.int .i64 room] w (MadeS w A c L ad r):=by
 obtain⟨W1,hW1⟩:=words.nm (w.alloc (.cells #[.slice A L.length c,.int .i64 ad] 38));have hb1:=words.b1 hW1;have HS:=hid (show W1.heap[w.heap.size]?=some (.cells #[.slice A L.length c,.int .i64 ad] 38 (0,0)) by rw [hW1];exact heap_alloc_new w _);have HB1:=hid hb1;have HW1:=hid hW1;have HSS:Hid (∀w':World,Below W1.heap.size W1 w'→(w'.cell? ⟨w.heap.size,0,none⟩=some (.slice A L.length c)∧w'.cell? ⟨w.heap.size,1,none⟩=some (.int .i64 ad)∧Below W1.heap.size W1 w')):=hid fun w' hb=>by
  have e1:=(hb.block _ (lt_of_some HS.out)).trans HS.out;exact⟨Jaa e1 0,Jaa e1 1,hb⟩
 have HBv:Hid (Below W1.heap.size W1 W1.drew):=hid (Below.refl _ _).drew;have HC:Hid (∀w':World,Calls prog 90 #[.int .i64 room] w' (cur.MadeC w' r)):=hid fun w'=>cur.new_any room r w' hr;clear hW1 hb1 hr;go_enter func54,ntmps54
 go_upto_region 1 with fail
 rw [←HW1.out];clear HW1;refine wp_region_held_drew (S:=fun w'=>(w'.cell? ⟨w.heap.size,0,none⟩=some (.slice A L.length c)∧w'.cell? ⟨w.heap.size,1,none⟩=some (.int .i64 ad)∧Below W1.heap.size W1 w')) (by kernel_rfl) (HSS.out _ HBv.out) (fun hHeld=>?_);refine words.tk 0 5 (v:=?_) ?_ ?_
 rotate_left 1
 ·intro _ h;(try dsimp only at h);go_simp;(try with_reducible rfl)
 try simp only [words.pt]
 refine words.tk 1 6 (v:=?_) ?_ ?_
 rotate_left 1
 ·intro _ h;(try dsimp only at h);go_simp;(try with_reducible rfl)
 try simp only [words.pt]
 refine wpAnyH_ready (rs:=[2]) (by kernel_rfl) (by simp) (.cons rfl (fun K hK=>?_) .nil);go_simp
 go_at_call 90
 refine (HC.out _).mono ?_;rintro en v1 ⟨t,m,rfl,htb,hv1⟩;have hq1:=HBv.out.trans (hv1.mono HBv.out.size);clear hHeld;refine hK.out _ _ (HSS.out _ hq1) (fun hHeld=>?_);clear hK;refine words.tk 3 8 (v:=?_) ?_ ?_
 rotate_left 1
 ·intro _ h;(try dsimp only at h);go_simp;(try with_reducible rfl)
 try simp only [words.pt]
 refine wpAnyH_ready (rs:=[4]) (by kernel_rfl) (by simp) (.cons rfl (fun K hK=>?_) .nil);go_simp
 clear hHeld;refine hK.out _ _ (HSS.out _ (hq1.alloc (Nat.le_trans HBv.out.size hv1.size) _)) (fun hHeld=>?_);clear hK;refine words.tk 5 4 (v:=?_) ?_ ?_
 rotate_left 1
 ·intro _ h;(try dsimp only at h);go_simp;(try with_reducible rfl)
 try simp only [words.pt]
 refine wpAnyH_done (by kernel_rfl) ?_ _;clear hHeld;obtain⟨V,hV⟩:=words.nm (v1.alloc (.cells #[.slice A L.length c,.int .i64 ad,.int .i64 0,.pointer (some ⟨t,0,none⟩)] 92));have hbV:Below v1.heap.size v1 V:=words.b1 hV;have hxV:V.heap[v1.heap.size]?=some (.cells #[.slice A L.length c,.int .i64 ad,.int .i64 0,.pointer (some ⟨t,0,none⟩)] 92 (0,0)):=by rw [hV];exact heap_alloc_new v1 _
 have hbw:=HB1.out.trans ((hq1.trans (hbV.mono hq1.size)).mono HB1.out.size);have HEnd:Hid (MadeS w A c L ad r (.returned (.pointer (some ⟨v1.heap.size,0,none⟩))) V):=hid ⟨_,t,m,rfl,⟨Nat.le_trans HB1.out.size hq1.size,hxV,tb_base (htb.later hbV) (Nat.le_trans HB1.out.size HBv.out.size)⟩,hbw⟩;have HV:=hid hV;clear hV hbV hxV hbw htb hv1 hq1 HSS HBv HC;rw [←HV.out];go_wp2_with fail
 go_ret
 exact HEnd.out
end Go.Proofs.YtekekhgjobahaaaGreatDoor.spc
