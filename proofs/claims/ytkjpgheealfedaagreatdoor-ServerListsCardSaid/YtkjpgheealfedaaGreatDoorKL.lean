import Derived.Test.YtkjpgheealfedaaGreatDoorKK
import Derived.Test.YtkjpgheealfedaaGreatDoorJXA
set_option maxHeartbeats 3200000
set_option maxRecDepth 100000
open Go.Lib (hid)
open Go.Proofs.Tryz
namespace Go.Proofs.YtkjpgheealfedaaGreatDoor.svr
open Go.RowKit Go.Maps words lru

theorem zeroInt (w:World):(zeroValue 3).run prog w= .ok (.int .i64 0) w:=by kernel_rfl
section
variable {w w':World} {B:Nat} {b:Bk} {d:Sd}
theorem Sv.locked {K:List (Lk×Int)} (h:Sv w B b d) (hm:Locks w' b.mp (kR K)) (ht:Tn (fun j=>j=b.mp) w w'):Sv w' B b {d with K:=K}:=
 have m:Frm (fun _=>False) (fun j=>j=b.mp) w w':=⟨ht.os,ht.tape,ht.output,ht.size,fun k hk hn _=>ht.block k hk hn,fun k hk cs t f e=>by subst hk;exact h.lk.not cs t f e⟩
 ⟨h.ge,m.blk h.blk (fun h=>h),m.spc h.st (fun h=>h) (fun h=>h) (fun e=>h.ne e.symm),m.dca h.dc (fun h=>h) (fun h=>h) (fun h=>h) (fun h=>h) (fun h=>h),m.lca h.lc (fun h=>h) (fun h=>h) (fun h=>h) (fun h=>h) (fun h=>h),hm,h.mp,h.ne⟩
theorem Sv.quiet (h:Sv w B b d) (ht:Tn (fun _=>False) w w'):Sv w' B b d:=
 have m:Frm (fun _=>False) (fun _=>False) w w':=⟨ht.os,ht.tape,ht.output,ht.size,fun k hk _ _=>ht.block k hk (fun h=>h),fun _ hk=>hk.elim⟩
 ⟨h.ge,m.blk h.blk (fun h=>h),m.spc h.st (fun h=>h) (fun h=>h) (fun h=>h),m.dca h.dc (fun h=>h) (fun h=>h) (fun h=>h) (fun h=>h) (fun h=>h),m.lca h.lc (fun h=>h) (fun h=>h) (fun h=>h) (fun h=>h) (fun h=>h),m.mapL h.lk (fun h=>h),h.mp,h.ne⟩
theorem Sv.look_ok (h:Sv w B b d) {l:Lk} {lb:Bool} {n:Int} (hkv:kvL l= .agg #[.bool lb,.int .i64 n]):
  (Instr.lookup 97 (.map (some b.mp)) (.agg #[.bool lb,.int .i64 n]) true).run prog w= .ok (.tuple #[((valK d.K l).map fun v=> .int .i64 v).getD (.int .i64 0),.bool (valK d.K l).isSome]) w:=by
 have:=h.lk.look_ok keysL underlying97 (zeroInt w) (x:=l);rw [Jne,hkv] at this;rw [this];rcases valK d.K l with _ |v
 ·rfl
 ·rfl
end
section
variable {B:Nat} {b:Bk} {d:Sd} {w:World} {l:Lk} {lb:Bool} {n id v:Int}
theorem boxed (h:Sv w B b d) (lb:Bool) (n:Int):∃W1,W1=w.alloc (.cells #[.bool lb,.int .i64 n] 62)∧Sv W1 B b d∧Below w.heap.size w W1∧W1.heap[w.heap.size]?=some (.cells #[.bool lb,.int .i64 n] 62 (0,0)):=by
 refine⟨_,rfl,?_,(Below.refl _ _).alloc (Nat.le_refl _) _,heap_alloc_new w _⟩;exact h.later ((Below.refl _ _).alloc (Nat.le_refl _) _)
def Still (w:World) (v:Value) (e:Ending) (w':World):Prop:=e= .returned v∧Below w.heap.size w w'
def Locked (w:World) (B:Nat) (b:Bk) (d:Sd) (K:List (Lk×Int)) (e:Ending) (w':World):Prop:=e= .returned (.bool true)∧Sv w' B b {d with K:=K}∧Tn (fun j=>j=b.mp) w w'
theorem Jrt (h:Sv w B b d) (hkv:kvL l= .agg #[.bool lb,.int .i64 n]) (hy:valK d.K l=some v):
  Calls prog 22 #[.pointer (some ⟨b.v,0,none⟩),.agg #[.bool lb,.int .i64 n],.int .i64 id] w (Still w (.bool false)):=by
 obtain⟨W1,hW1,h1,hb1,hk1⟩:=boxed h lb n;have c8:=Jaa h1.blk 8;have z0:=Jaa hk1 0;have z1:=Jaa hk1 1;have hlk:∀k,(Instr.lookup 97 (.map (some b.mp)) (.agg #[.bool lb,.int .i64 n]) true).run prog (W1.drewN k)= .ok (.tuple #[.int .i64 v,.bool true]) (W1.drewN k):=fun k=>by
  have:=(h1.quiet ((Tn.refl _ _).drewN k)).look_ok hkv;rwa [hy] at this
 have hlk0:(Instr.lookup 97 (.map (some b.mp)) (.agg #[.bool lb,.int .i64 n]) true).run prog W1= .ok (.tuple #[.int .i64 v,.bool true]) W1:=by
  have:=h1.look_ok hkv;rwa [hy] at this
 have HW1:=hid hW1;have HB1:=hid hb1;clear h h1 hkv hy hW1 hb1 hk1;go_enter func22,ntmps22
 go_upto_region 1 with fail
 rw [←HW1.out];go_quiet (fail)
 go_wp2_with fail
 go_ret
 exact⟨rfl,below_drewN HB1.out _⟩
theorem Jp8 (h:Sv w B b d) (hkv:kvL l= .agg #[.bool lb,.int .i64 n]) (hy:valK d.K l=none) (hK:d.K.length≤1000):
  Calls prog 22 #[.pointer (some ⟨b.v,0,none⟩),.agg #[.bool lb,.int .i64 n],.int .i64 id] w (Locked w B b d (d.K++[(l,id)])):=by
 obtain⟨W1,hW1,h1,hb1,hk1⟩:=boxed h lb n;have hlk:∀k,(Instr.lookup 97 (.map (some b.mp)) (.agg #[.bool lb,.int .i64 n]) true).run prog (W1.drewN k)= .ok (.tuple #[.int .i64 0,.bool false]) (W1.drewN k):=fun k=>by
  have:=(h1.quiet ((Tn.refl _ _).drewN k)).look_ok hkv;rwa [hy] at this
 have hlk0:(Instr.lookup 97 (.map (some b.mp)) (.agg #[.bool lb,.int .i64 n]) true).run prog W1= .ok (.tuple #[.int .i64 0,.bool false]) W1:=by
  have:=h1.look_ok hkv;rwa [hy] at this
 have c8:=Jaa h1.blk 8;have z0:=Jaa hk1 0;have z1:=Jaa hk1 1;have HW1:=hid hW1;have H1:=hid h1;have HB1:=hid hb1;have HZ:=hid hk1;have HKV:=hid hkv;have HNO:Hid (mpk.valP (kR d.K) l=none):=hid (by rw [Jne,hy];rfl);have HLL:Hid ((kR d.K).length<maxLen):=hid (by rw [Jq9];simp only [maxLen];omega);clear h h1 hkv hy hW1 hb1 hk1 hK;go_enter func22,ntmps22
 go_upto_region 1 with fail
 rw [←HW1.out];go_quiet (fail)
 go_upto_region 4 with fail
 obtain⟨W2,hW2⟩:=words.nm (W1.drewN nq);rw [←hW2];have ht2:Tn (fun _=>False) W1 W2:=by rw [hW2];exact (Tn.refl _ _).drewN nq
 have HT2:=hid ht2;have c8:=Jaa (H1.out.quiet ht2).blk 8;have hzz:=(ht2.block _ (lt_of_some HZ.out) (fun h=>h)).trans HZ.out;have z0:=Jaa hzz 0;have z1:=Jaa hzz 1;clear ht2 hW2 hzz;go_still_tail 6,(by kernel_rfl)
 change wpList _ _ _ _ _ W2.drew;generalize hw3:W2.drew=w3;have ht3:Tn (fun _=>False) W1 w3:=HT2.out.trans (by rw [←hw3];exact (Tn.refl _ _).drew);have HT3:=hid (H1.out.quiet ht3);have HTN3:Hid (Tn (fun j=>j=b.mp) w w3):=hid ((Tn.of_below HB1.out _).trans (ht3.mono fun _ h=>h.elim));clear ht3 hw3 c8 z0 z1;go_wp2_with (at_mapUpdate;refine mpk.wpList_new rfl _ _ _ 97 rfl 62 3 keysL underlying97 b.mp (kR d.K) rfl HT3.out.lk HLL.out l (.int .i64 id) (by rw [HKV.out];rfl) rfl HNO.out ?_;intro w4 hm4 ht4;have HE:Hid (Locked w B b d (d.K++[(l,id)]) (.returned (.bool true)) w4):=hid ⟨rfl,HT3.out.locked (by rw [Jrs];exact hm4) ht4,HTN3.out.trans ht4⟩;clear hm4 ht4)
 go_ret
 exact HE.out
theorem Jqy (h:Sv w B b d):
  Calls prog 23 #[.pointer (some ⟨b.v,0,none⟩)] w fun e w'=>e= .returned (.int .i64 (d.K.length:Int))∧w'=w:=by
 have c8:=Jaa h.blk 8;have hl:∀ty,(Builtin.len_ #[97] ty #[.map (some b.mp)]).run prog w= .ok (.int .i64 (d.K.length:Int)) w:=fun ty=>by
  have:=h.lk.len underlying97 ty;rwa [Jq9] at this
 clear h;go_enter func23,ntmps23
 go_wp2_with fail
 go_ret
 exact⟨rfl,rfl⟩
theorem Jor {B q h:Nat} {C:List shd.Cc} {x y:Int} {w:World} (d:dca.Dc w B q h C x y) (h2:C.length≤256):
  Calls prog 42 #[.pointer (some ⟨h,0,none⟩)] w fun e w'=>e= .returned (.int .i64 (sha.mostF (C.map fun c=>c.L.length):Int))∧w=w':=by
 refine shd.most_any B h _ _ w d.shd (by rw [dca.gs_len];exact h2) ⟨by simp [dca.gsOf],fun i g hg=>?_⟩;unfold dca.gsOf at hg;rw [List.getElem?_map] at hg;rcases hc:C[i]? with _ |c
 ·rw [hc] at hg;cases hg
 ·rw [hc] at hg
  injection hg with hg;subst hg;exact⟨c.bo,c.r,c.L,d.fam.lru i c hc,by rw [List.getElem?_map,hc];rfl⟩
theorem Jq0 (h:Sv w B b d) (h1:d.N.length≤256) (h2:d.Ls.length≤256):
  Calls prog 13 #[.pointer (some ⟨b.v,0,none⟩)] w (Still w (.tuple #[.int .i64 (sha.mostF (d.N.map fun c=>c.L.length):Int),.int .i64 (sha.mostF (lca.nsOf d.Ls):Int)])):=by
 have c6:=Jaa h.blk 6;have c7:=Jaa h.blk 7;have q0:=Jaa h.dc.blk 0;have r0:=Jaa h.lc.blk 0;unfold sha.ptrC at q0;unfold sha.ptrC at r0;have HD:Hid (∀k,Calls prog 42 #[.pointer (some ⟨b.h,0,none⟩)] (w.drewN k) fun e w'=>e= .returned (.int .i64 (sha.mostF (d.N.map fun c=>c.L.length):Int))∧w.drewN k=w'):=hid fun k=>Jor (h.quiet ((Tn.refl _ _).drewN k)).dc h1;have HL:Hid (∀k,Calls prog 43 #[.pointer (some ⟨b.h2,0,none⟩)] (w.drewN k) fun e w'=>e= .returned (.int .i64 (sha.mostF (lca.nsOf d.Ls):Int))∧w.drewN k=w'):=hid fun k=>lca.lmost_any B b.q2 b.h2 d.Ls d.z _ (h.quiet ((Tn.refl _ _).drewN k)).lc h2;clear h h1 h2;go_enter func13,ntmps13
 go_wp2_with fail
 go_quiet ((first
   |(go_at_call 42;exact Calls.quiet_of_same ((HD.out _).mono fun e w' ⟨h1,h2⟩=>⟨h1,h2.symm⟩))
   |(go_at_call 43;exact Calls.quiet_of_same ((HL.out _).mono fun e w' ⟨h1,h2⟩=>⟨h1,h2.symm⟩))))
 go_wp2_with fail
 go_ret2
 exact⟨rfl,below_drewN (Below.refl _ _) _⟩
theorem Jkr (h:Sv w B b d):
  Calls prog 12 #[.pointer (some ⟨b.v,0,none⟩)] w (Still w (.tuple #[.int .i64 d.x,.int .i64 d.y,.int .i64 d.z])):=by
 have c6:=Jaa h.blk 6;have H:=hid h;have HC:=hid (dca.counts_any B b.q b.h d.N d.x d.y w h.dc);clear h;go_enter func12,ntmps12
 go_wp2_with fail
 refine HC.out.mono ?_;rintro e w1 ⟨rfl,hb1⟩;have h1:=H.out.later hb1;have c7:=Jaa h1.blk 7;have HM:=hid (lca.made_any B b.q2 b.h2 d.Ls d.z w1 h1.lc);have HB:=hid hb1;clear c6 h1 hb1;go_wp2_with fail
 refine HM.out.mono ?_;rintro e w2 ⟨rfl,rfl⟩;go_wp2_with fail
 exact bodyPost_ret (v:= .tuple #[.int .i64 d.x,.int .i64 d.y,.int .i64 d.z]) (by simp [results,results12,go_sem]) rfl ⟨rfl,HB.out⟩
theorem Jii (dir s:ByteArray) (h:Sv w B b d) (h1:0<d.N.length) (h2:d.N.length≤256) (hd:dir.size≤1000000) (hs:s.size≤1000000):
  Calls prog 14 #[.pointer (some ⟨b.v,0,none⟩),.string dir,.string s] w (Still w (.agg #[.bool false,.int .i64 (sha.ofF (dca.childB dir s) d.N.length:Int)])):=by
 obtain⟨W1,hW1⟩:=words.nm (w.alloc (.cells #[.bool false,.int .i64 0] 62));have hb1:=words.b1 hW1;have hk1:W1.heap[w.heap.size]?=some (.cells #[.bool false,.int .i64 0] 62 (0,0)):=by rw [hW1];exact heap_alloc_new w _
 have hS:=h.later hb1;have c6:=Jaa hS.blk 6;obtain⟨N,hN⟩:∃N:Int,N=(sha.ofF (dca.childB dir s) d.N.length:Int):=⟨_,rfl⟩
 have HC:=hid (dca.dshard_any B b.q b.h d.N d.x d.y dir s W1 hS.dc h1 h2 hd hs);rw [←hN] at HC ⊢;have HW1:=hid hW1;have HB1:=hid hb1;have HK1:=hid hk1;clear h hS h1 h2 hd hs hN hb1 hk1 hW1;go_enter func14,ntmps14
 go_upto_region 1 with fail
 rw [←HW1.out];go_wp2_with fail
 refine HC.out.mono ?_;rintro e w2 ⟨rfl,hb2⟩;have hk2:=(hb2.block _ (lt_of_some HK1.out)).trans HK1.out;obtain⟨W3,hW3⟩:=words.nm ((w2.setCell ⟨w.heap.size,0,none⟩ (.bool false)).setCell ⟨w.heap.size,1,none⟩ (.int .i64 N));have hk3:W3.heap[w.heap.size]?=some (.cells #[.bool false,.int .i64 N] 62 (0,0)):=by
  rw [hW3];exact heap_setCell_same _ _ 1 _ _ _ (heap_setCell_same w2 _ 0 _ _ _ hk2)
 have ht3:Tn (fun j=>j=w.heap.size) w2 W3:=by rw [hW3];exact ((Tn.refl (fun j=>j=w.heap.size) w2).setCell (p:=⟨w.heap.size,0,none⟩) (.inr rfl) _).setCell (p:=⟨w.heap.size,1,none⟩) (.inr rfl) _
 have z0:=Jaa hk2 0;have z1:=Jaa hk2 1;have f0:=Jab hk2 0;have f1:=Jab hk2 1;have y0:=Jaa hk3 0;have y1:=Jaa hk3 1;have HE:Hid (Still w (.agg #[.bool false,.int .i64 N]) (.returned (.agg #[.bool false,.int .i64 N])) W3):=hid ⟨rfl,((Tn.of_below (HB1.out.trans (hb2.mono HB1.out.size)) (fun j=>j=w.heap.size)).trans ht3).below (fun k hk=>by omega) (Nat.le_refl _)⟩;have HW3:=hid hW3;clear hb2 hk2 hW3 hk3 ht3 c6;go_wp2_with fail
 try rw [←HW3.out]
 exact bodyPost_ret (v:= .agg #[.bool false,.int .i64 N]) (by simp [results,results14,go_sem,y0,y1]) rfl HE.out
theorem Jmw (dir:ByteArray) (h:Sv w B b d) (h1:0<d.Ls.length) (h2:d.Ls.length≤256) (hd:dir.size≤1000000):
  Calls prog 15 #[.pointer (some ⟨b.v,0,none⟩),.string dir] w (Still w (.agg #[.bool true,.int .i64 (sha.ofF dir d.Ls.length:Int)])):=by
 obtain⟨W1,hW1⟩:=words.nm (w.alloc (.cells #[.bool false,.int .i64 0] 62));have hb1:=words.b1 hW1;have hk1:W1.heap[w.heap.size]?=some (.cells #[.bool false,.int .i64 0] 62 (0,0)):=by rw [hW1];exact heap_alloc_new w _
 have hS:=h.later hb1;have c7:=Jaa hS.blk 7;obtain⟨N,hN⟩:∃N:Int,N=(sha.ofF dir d.Ls.length:Int):=⟨_,rfl⟩
 have r0:=Jaa hS.lc.blk 0;unfold sha.ptrC at r0;have HC:=hid (lca.lof_any B b.q2 b.h2 d.Ls d.z dir W1 hS.lc h1 h2 hd);rw [←hN] at HC ⊢;have HW1:=hid hW1;have HB1:=hid hb1;have HK1:=hid hk1;clear h hS h1 h2 hd hN hb1 hk1 hW1;go_enter func15,ntmps15
 go_upto_region 1 with fail
 rw [←HW1.out];go_wp2_with fail
 refine HC.out.mono ?_;rintro e w2 ⟨rfl,nq,rfl⟩;obtain⟨w2,hw2⟩:=words.nm (W1.drewN nq);rw [←hw2];have hb2:Below W1.heap.size W1 w2:=by rw [hw2];exact dca.below_drewN W1 nq
 have hk2:=(hb2.block _ (lt_of_some HK1.out)).trans HK1.out;obtain⟨W3,hW3⟩:=words.nm ((w2.setCell ⟨w.heap.size,0,none⟩ (.bool true)).setCell ⟨w.heap.size,1,none⟩ (.int .i64 N));have hk3:W3.heap[w.heap.size]?=some (.cells #[.bool true,.int .i64 N] 62 (0,0)):=by
  rw [hW3];exact heap_setCell_same _ _ 1 _ _ _ (heap_setCell_same w2 _ 0 _ _ _ hk2)
 have ht3:Tn (fun j=>j=w.heap.size) w2 W3:=by rw [hW3];exact ((Tn.refl (fun j=>j=w.heap.size) w2).setCell (p:=⟨w.heap.size,0,none⟩) (.inr rfl) _).setCell (p:=⟨w.heap.size,1,none⟩) (.inr rfl) _
 have z0:=Jaa hk2 0;have z1:=Jaa hk2 1;have f0:=Jab hk2 0;have f1:=Jab hk2 1;have y0:=Jaa hk3 0;have y1:=Jaa hk3 1;have HE:Hid (Still w (.agg #[.bool true,.int .i64 N]) (.returned (.agg #[.bool true,.int .i64 N])) W3):=hid ⟨rfl,((Tn.of_below (HB1.out.trans (hb2.mono HB1.out.size)) (fun j=>j=w.heap.size)).trans ht3).below (fun k hk=>by omega) (Nat.le_refl _)⟩;have HW3:=hid hW3;clear hw2 hb2 hk2 hW3 hk3 ht3 c7 r0;go_wp2_with fail
 try rw [←HW3.out]
 exact bodyPost_ret (v:= .agg #[.bool true,.int .i64 N]) (by simp [results,results15,go_sem,y0,y1]) rfl HE.out
end
end Go.Proofs.YtkjpgheealfedaaGreatDoor.svr

namespace Go.Proofs.YtkjpgheealfedaaGreatDoor.svr
open Go.RowKit words lru

theorem boxes2 (w:World) (c1:Array Value) (t1:TypeId) (c2:Array Value) (t2:TypeId):∃(W1:World) (g1:Nat),W1=(w.alloc (.cells c1 t1)).alloc (.cells c2 t2)∧g1=w.heap.size+1∧W1.heap[w.heap.size]?=some (.cells c1 t1 (0,0))∧W1.heap[g1]?=some (.cells c2 t2 (0,0))∧Below w.heap.size w W1∧W1.heap.size=w.heap.size+2:=by
 refine⟨_,_,rfl,rfl,?_,?_,((Below.refl _ _).alloc (Nat.le_refl _) _).alloc (by simp) _,by simp⟩
 ·exact (Below.heap_alloc (w.alloc (.cells c1 t1)) _ _ (by simp)).trans (heap_alloc_new w _)
 ·have h:=heap_alloc_new (w.alloc (.cells c1 t1)) (.cells c2 t2)
  rw [show (w.alloc (.cells c1 t1)).heap.size=w.heap.size+1 by simp] at h;exact h
structure Seeing (W1:World) (A:Option Addr) (n c:Nat) (ad:Int) (Ap:Option Addr) (np cp:Nat) (s:ByteArray) (th:Bool) (kd lv nd:Int) (P:List (Int×Int)) (tg:ByteArray):Prop where
 look:∀w',Below W1.heap.size W1 w'→Calls prog 29 #[.agg #[.slice A n c,.int .i64 ad],.slice Ap np cp,.string s] w' fun e w''=>∃Af cf,e= .returned (.tuple #[.agg #[.int .i64 kd,.int .i64 lv,.int .i64 nd,.slice Af P.length cf],.bool th])∧dca.Sp w'' 0 Af P.length P∧Below w'.heap.size w' w''
 lead:kd=3→∃y:Nat,(∀w',Below W1.heap.size W1 w'→Calls prog 67 #[.agg #[.slice A n c,.int .i64 ad],.int .i64 lv] w' fun e w''=>e= .returned (.pointer (some ⟨y,0,none⟩))∧Below w'.heap.size w' w'')∧(∀w',Below W1.heap.size W1 w'→Calls prog 68 #[.pointer (some ⟨y,0,none⟩),.int .i64 nd] w' fun e w''=>e= .returned (.string tg)∧Below w'.heap.size w' w'')
 plain:kd≠3→tg=⟨#[]⟩
theorem Seeing.later {W1 w':World} {A:Option Addr} {n c:Nat} {ad:Int} {Ap:Option Addr} {np cp:Nat} {s:ByteArray} {th:Bool} {kd lv nd:Int} {P:List (Int×Int)} {tg:ByteArray} (h:Seeing W1 A n c ad Ap np cp s th kd lv nd P tg) (hb:Below W1.heap.size W1 w'):Seeing w' A n c ad Ap np cp s th kd lv nd P tg:=
 ⟨fun v hv=>h.look v (hb.trans (hv.mono hb.size)),fun e=>by
   obtain⟨y,h1,h2⟩:=h.lead e;exact⟨y,fun v hv=>h1 v (hb.trans (hv.mono hb.size)),fun v hv=>h2 v (hb.trans (hv.mono hb.size))⟩,h.plain⟩
section
variable (A:Option Addr) (n c:Nat) (ad:Int) (Ap:Option Addr) (np cp:Nat) (s:ByteArray) (th:Bool) (ep kd lv nd:Int) (P:List (Int×Int)) (tg:ByteArray) (w:World)
def Seen (w:World) (th:Bool) (ep kd lv nd:Int) (P:List (Int×Int)) (tg:ByteArray) (e:Ending) (w':World):Prop:=∃Af cf,e= .returned (.agg #[.int .i64 ep,.bool th,.int .i64 kd,.int .i64 lv,.int .i64 nd,.slice Af P.length cf,.string tg])∧dca.Sp w' 0 Af P.length P∧Below w.heap.size w w'
theorem Jl3 (hS:Seeing w A n c ad Ap np cp s th kd lv nd P tg) (hk:kd≠3):
  Calls prog 51 #[.agg #[.slice A n c,.int .i64 ad],.int .i64 ep,.slice Ap np cp,.string s] w (Seen w th ep kd lv nd P tg):=by
 obtain⟨W1,g1,hW1,hg,hx,hz,hb1,hs1⟩:=boxes2 w #[.slice A n c,.int .i64 ad] 29 #[.int .i64 0,.bool false,.int .i64 0,.int .i64 0,.int .i64 0,.slice none 0 0,.string ⟨#[]⟩] 75;have HL:=hid ((hS.later hb1).look);have htg:=hS.plain hk;subst htg;have hke:(kd==3)=false:=by simpa using hk
 have x0:=Jaa hx 0;have x1:=Jaa hx 1;have HX:=hid hx;have HZ:=hid hz;have HB1:=hid hb1;have HW1:=hid hW1;have HG:=hid hg;have HS1:=hid hs1;clear hx hz hb1 hW1 hg hs1 hS hk;go_enter func51,ntmps51
 go_upto_region 1 with fail
 rw [←HW1.out,←HG.out];go_wp2_with fail
 refine (HL.out _ (Below.refl _ _)).mono ?_;rintro e w2 ⟨Af,cf,rfl,hsp,hb2⟩;have HSp:=hid hsp;obtain⟨b1,hB1⟩:=words.nm (w2.heap.size);obtain⟨W3,hW3⟩:=words.nm (w2.alloc (.cells #[.int .i64 kd,.int .i64 lv,.int .i64 nd,.slice Af P.length cf] 37));have hb3:Below W1.heap.size W1 W3:=by rw [hW3];exact hb2.trans ((Below.refl _ _).alloc hb2.size _)
 have hk3:W3.heap[b1]?=some (.cells #[.int .i64 kd,.int .i64 lv,.int .i64 nd,.slice Af P.length cf] 37 (0,0)):=by rw [hW3,hB1];exact heap_alloc_new w2 _
 have f0:=Jaa hk3 0;have f1:=Jaa hk3 1;have f2:=Jaa hk3 2;have f3:=Jaa hk3 3;have HW3:=hid hW3;have HB3:=hid hb3;have HK3:=hid hk3;have HBe1:=hid hB1;have HB2:=hid hb2;clear hsp hb2 hb3 hk3 hW3 hB1 x0 x1;go_upto_region 2 with fail
 rw [←HBe1.out,←HW3.out];obtain⟨b2,hB2⟩:=words.nm (W3.heap.size);obtain⟨W4,hW4⟩:=words.nm (W3.alloc (.cells #[.int .i64 ep,.bool th,.int .i64 kd,.int .i64 lv,.int .i64 nd,.slice Af P.length cf,.string ⟨#[]⟩] 75));have hb4:Below W3.heap.size W3 W4:=words.b1 hW4;have hk4:W4.heap[b2]?=some (.cells #[.int .i64 ep,.bool th,.int .i64 kd,.int .i64 lv,.int .i64 nd,.slice Af P.length cf,.string ⟨#[]⟩] 75 (0,0)):=by rw [hW4,hB2];exact heap_alloc_new W3 _
 have hf4:=(hb4.block _ (lt_of_some HK3.out)).trans HK3.out;have HW4:=hid hW4;have HB4:=hid (HB3.out.trans (hb4.mono HB3.out.size));have HK4:=hid hk4;have HF4:=hid hf4;have HBe2:=hid hB2;have HSp4:Hid (dca.Sp W4 0 Af P.length P):=hid (HSp.out.later (by rw [hW4,HW3.out];exact ((Below.refl _ _).alloc (Nat.le_refl _) _).alloc (by simp) _));clear hW4 hb4 hk4 hf4 hB2;go_upto_region 3 with fail
 rw [←HBe2.out,←HW4.out];clear f0 f1 f2 f3;have f0:=Jaa HF4.out 0;go_upto_region 5 with fail
 have hg1:=(HB4.out.block _ (lt_of_some HZ.out)).trans HZ.out;have hb9:=HB4.out;have hsp9:=HSp4.out;have e0:=Jaa HK4.out 0;have e1:=Jaa HK4.out 1;have e2:=Jaa HK4.out 2;have e3:=Jaa HK4.out 3;have e4:=Jaa HK4.out 4;have e5:=Jaa HK4.out 5;have e6:=Jaa HK4.out 6;obtain⟨W9,hW9⟩:=words.nm (((((((W4.setCell ⟨g1,0,none⟩ (.int .i64 ep)).setCell ⟨g1,1,none⟩ (.bool th)).setCell ⟨g1,2,none⟩ (.int .i64 kd)).setCell ⟨g1,3,none⟩ (.int .i64 lv)).setCell ⟨g1,4,none⟩ (.int .i64 nd)).setCell ⟨g1,5,none⟩ (.slice Af P.length cf)).setCell ⟨g1,6,none⟩ (.string ⟨#[]⟩));have h9:W9=setsV W4 g1 0 [.int .i64 ep,.bool th,.int .i64 kd,.int .i64 lv,.int .i64 nd,.slice Af P.length cf,.string ⟨#[]⟩]:=hW9;have hk9:W9.heap[g1]?=some (.cells #[.int .i64 ep,.bool th,.int .i64 kd,.int .i64 lv,.int .i64 nd,.slice Af P.length cf,.string ⟨#[]⟩] 75 (0,0)):=by rw [h9];exact Jak hg1 rfl
 have ht9:Tn (fun k=>k=g1) W4 W9:=by rw [h9];exact Jan (S:=fun k=>k=g1) _ (.inr rfl) _ _ _ (Tn.refl _ _)
 have y0:=Jaa hg1 0;have y1:=Jaa hg1 1;have y2:=Jaa hg1 2;have y3:=Jaa hg1 3;have y4:=Jaa hg1 4;have y5:=Jaa hg1 5;have y6:=Jaa hg1 6;have z0:=Jab hg1 0;have z1:=Jab hg1 1;have z2:=Jab hg1 2;have z3:=Jab hg1 3;have z4:=Jab hg1 4;have z5:=Jab hg1 5;have z6:=Jab hg1 6;have k9:=hk9;have hE:Hid (Seen w th ep kd lv nd P ⟨#[]⟩ (.returned (.agg #[.int .i64 ep,.bool th,.int .i64 kd,.int .i64 lv,.int .i64 nd,.slice Af P.length cf,.string ⟨#[]⟩])) W9):=hid ⟨Af,cf,rfl,hsp9.kept (S:=fun t=>t=75) (ht9.kept (fun k hk=>by subst hk;exact⟨Nat.zero_le _,_,_,_,hg1,rfl⟩)) (by decide),by
   have:=((Tn.of_below (HB1.out.trans (hb9.mono HB1.out.size)) (fun k=>k=g1)).trans ht9)
   exact this.below (fun k hk=>by rw [hk,HG.out];omega) (Nat.le_refl _)⟩
 have p0:=Jaa k9 0;have p1:=Jaa k9 1;have p2:=Jaa k9 2;have p3:=Jaa k9 3;have p4:=Jaa k9 4;have p5:=Jaa k9 5;have p6:=Jaa k9 6;have HW9:=hid hW9;clear hg1 hb9 hsp9 h9 hk9 ht9 hW9 k9;go_wp2_with fail
 try rw [←HW9.out]
 exact bodyPost_ret (v:= .agg #[.int .i64 ep,.bool th,.int .i64 kd,.int .i64 lv,.int .i64 nd,.slice Af P.length cf,.string ⟨#[]⟩]) (by simp [results,results51,go_sem,p0,p1,p2,p3,p4,p5,p6]) rfl hE.out
theorem Jo0 (hS:Seeing w A n c ad Ap np cp s th kd lv nd P tg) (hk:kd=3):
  Calls prog 51 #[.agg #[.slice A n c,.int .i64 ad],.int .i64 ep,.slice Ap np cp,.string s] w (Seen w th ep kd lv nd P tg):=by
 obtain⟨W1,g1,hW1,hg,hx,hz,hb1,hs1⟩:=boxes2 w #[.slice A n c,.int .i64 ad] 29 #[.int .i64 0,.bool false,.int .i64 0,.int .i64 0,.int .i64 0,.slice none 0 0,.string ⟨#[]⟩] 75;have HL:=hid ((hS.later hb1).look);obtain⟨y,hA,hT⟩:=(hS.later hb1).lead hk;have HAt:=hid hA;have HTg:=hid hT;have hke:(kd==3)=true:=by simpa using hk
 clear hA hT;have x0:=Jaa hx 0;have x1:=Jaa hx 1;have HX:=hid hx;have HZ:=hid hz;have HB1:=hid hb1;have HW1:=hid hW1;have HG:=hid hg;have HS1:=hid hs1;clear hx hz hb1 hW1 hg hs1 hS hk;go_enter func51,ntmps51
 go_upto_region 1 with fail
 rw [←HW1.out,←HG.out];go_wp2_with fail
 refine (HL.out _ (Below.refl _ _)).mono ?_;rintro e w2 ⟨Af,cf,rfl,hsp,hb2⟩;have HSp:=hid hsp;obtain⟨b1,hB1⟩:=words.nm (w2.heap.size);obtain⟨W3,hW3⟩:=words.nm (w2.alloc (.cells #[.int .i64 kd,.int .i64 lv,.int .i64 nd,.slice Af P.length cf] 37));have hb3:Below W1.heap.size W1 W3:=by rw [hW3];exact hb2.trans ((Below.refl _ _).alloc hb2.size _)
 have hk3:W3.heap[b1]?=some (.cells #[.int .i64 kd,.int .i64 lv,.int .i64 nd,.slice Af P.length cf] 37 (0,0)):=by rw [hW3,hB1];exact heap_alloc_new w2 _
 have f0:=Jaa hk3 0;have f1:=Jaa hk3 1;have f2:=Jaa hk3 2;have f3:=Jaa hk3 3;have HW3:=hid hW3;have HB3:=hid hb3;have HK3:=hid hk3;have HBe1:=hid hB1;have HB2:=hid hb2;clear hsp hb2 hb3 hk3 hW3 hB1 x0 x1;go_upto_region 2 with fail
 rw [←HBe1.out,←HW3.out];obtain⟨b2,hB2⟩:=words.nm (W3.heap.size);obtain⟨W4,hW4⟩:=words.nm (W3.alloc (.cells #[.int .i64 ep,.bool th,.int .i64 kd,.int .i64 lv,.int .i64 nd,.slice Af P.length cf,.string ⟨#[]⟩] 75));have hb4:Below W3.heap.size W3 W4:=words.b1 hW4;have hk4:W4.heap[b2]?=some (.cells #[.int .i64 ep,.bool th,.int .i64 kd,.int .i64 lv,.int .i64 nd,.slice Af P.length cf,.string ⟨#[]⟩] 75 (0,0)):=by rw [hW4,hB2];exact heap_alloc_new W3 _
 have hf4:=(hb4.block _ (lt_of_some HK3.out)).trans HK3.out;have HW4:=hid hW4;have HB4:=hid (HB3.out.trans (hb4.mono HB3.out.size));have HK4:=hid hk4;have HF4:=hid hf4;have HBe2:=hid hB2;have HSp4:Hid (dca.Sp W4 0 Af P.length P):=hid (HSp.out.later (by rw [hW4,HW3.out];exact ((Below.refl _ _).alloc (Nat.le_refl _) _).alloc (by simp) _));clear hW4 hb4 hk4 hf4 hB2;go_upto_region 3 with fail
 rw [←HBe2.out,←HW4.out];clear f0 f1 f2 f3;have f0:=Jaa HF4.out 0;go_upto_region 4 with fail
 clear f0;have HCE:Hid (∀w',Below W4.heap.size W4 w'→w'.cell? ⟨w.heap.size,0,none⟩=some (.slice A n c)∧w'.cell? ⟨w.heap.size,1,none⟩=some (.int .i64 ad)∧w'.cell? ⟨b1,1,none⟩=some (.int .i64 lv)∧w'.cell? ⟨b1,2,none⟩=some (.int .i64 nd)):=hid fun w' hb=>by
  have e1:=(hb.block _ (lt_of_some ((HB4.out.block _ (lt_of_some HX.out)).trans HX.out))).trans ((HB4.out.block _ (lt_of_some HX.out)).trans HX.out);have e2:=(hb.block _ (lt_of_some HF4.out)).trans HF4.out;exact⟨Jaa e1 0,Jaa e1 1,Jaa e2 1,Jaa e2 2⟩
 have HD:Hid (Below W4.heap.size W4 W4.drew):=hid (Below.refl _ _).drew;refine held.wpT_start (S:=fun w'=>Below W4.heap.size W4 w') (T:=fun k=>k==10) (by kernel_rfl) ?_;refine held.wpT_load (i:=0) (oi:=⟨some 26,_,_,_,_,_⟩) (v:=?_) rfl (by kernel_rfl) (by kernel_rfl) (by kernel_rfl) (fun _ _ _ h=>h) (by kernel_rfl) (Or.inl ⟨by kernel_rfl,?_⟩) (HD.out) ?_
 rotate_left 1
 focus (intro w' hSw;obtain⟨q0,q1,q2,q3⟩:=HCE.out w' hSw;clear hSw;go_simp;(try with_reducible rfl))
 try simp only [words.pt]
 refine held.wpT_take (i:=1) (oi:=⟨some 27,_,_,_,_,_⟩) (v:=?_) rfl (by kernel_rfl) (by kernel_rfl) (by kernel_rfl) (fun _ _ _ h=>h) (Or.inl ⟨by kernel_rfl,?_⟩) ?_
 rotate_left 1
 ·intro _ _;go_simp;(try with_reducible rfl)
 try simp only [words.pt]
 refine held.wpT_take (i:=2) (oi:=⟨some 28,_,_,_,_,_⟩) (v:=?_) rfl (by kernel_rfl) (by kernel_rfl) (by kernel_rfl) (fun _ _ _ h=>h) (Or.inl ⟨by kernel_rfl,?_⟩) ?_
 rotate_left 1
 ·intro _ _;go_simp;(try with_reducible rfl)
 try simp only [words.pt]
 refine held.wpT_load (i:=3) (oi:=⟨some 29,_,_,_,_,_⟩) (v:=?_) rfl (by kernel_rfl) (by kernel_rfl) (by kernel_rfl) (fun _ _ _ h=>h) (by kernel_rfl) (Or.inl ⟨by kernel_rfl,?_⟩) (HD.out) ?_
 rotate_left 1
 focus (intro w' hSw;obtain⟨q0,q1,q2,q3⟩:=HCE.out w' hSw;clear hSw;go_simp;(try with_reducible rfl))
 try simp only [words.pt]
 refine held.wpT_take (i:=5) (oi:=⟨some 31,_,_,_,_,_⟩) (v:=?_) rfl (by kernel_rfl) (by kernel_rfl) (by kernel_rfl) (fun _ _ _ h=>h) (Or.inl ⟨by kernel_rfl,?_⟩) ?_
 rotate_left 1
 ·intro _ _;go_simp;(try with_reducible rfl)
 try simp only [words.pt]
 refine held.wpT_take (i:=6) (oi:=⟨some 32,_,_,_,_,_⟩) (v:=?_) rfl (by kernel_rfl) (by kernel_rfl) (by kernel_rfl) (fun _ _ _ h=>h) (Or.inl ⟨by kernel_rfl,?_⟩) ?_
 rotate_left 1
 ·intro _ _;go_simp;(try with_reducible rfl)
 try simp only [words.pt]
 refine held.wpT_load (i:=7) (oi:=⟨some 33,_,_,_,_,_⟩) (v:=?_) rfl (by kernel_rfl) (by kernel_rfl) (by kernel_rfl) (fun _ _ _ h=>h) (by kernel_rfl) (Or.inl ⟨by kernel_rfl,?_⟩) (HD.out) ?_
 rotate_left 1
 focus (intro w' hSw;obtain⟨q0,q1,q2,q3⟩:=HCE.out w' hSw;clear hSw;go_simp;(try with_reducible rfl))
 try simp only [words.pt]
 refine held.wpT_one (i:=4) (by kernel_rfl) rfl (fun Kc hK=>?_);go_simp
 go_at_call 67
 refine (HAt.out _ (HB4.out.trans (HD.out.mono HB4.out.size))).mono ?_;rintro en v1 ⟨rfl,hv1⟩;have HV1:=hid (HD.out.trans (hv1.mono HD.out.size));clear hv1;refine hK.out _ _ (fun _ _=>HV1.out) ?_;clear hK;try simp only [words.pt]
 refine held.wpT_one (i:=8) (by kernel_rfl) rfl (fun Kc hK=>?_);go_simp
 go_at_call 68
 refine (HTg.out _ (HB4.out.trans (HV1.out.mono HB4.out.size))).mono ?_;rintro en v2 ⟨rfl,hv2⟩;have HV2:=hid (HV1.out.trans (hv2.mono HV1.out.size));clear hv2;refine hK.out _ _ (fun _ _=>HV2.out) ?_;clear hK;try simp only [words.pt]
 refine held.wpT_take (i:=9) (oi:=⟨some 35,_,_,_,_,_⟩) (v:=?_) rfl (by kernel_rfl) (by kernel_rfl) (by kernel_rfl) (fun _ _ _ h=>h) (Or.inl ⟨by kernel_rfl,?_⟩) ?_
 rotate_left 1
 ·intro _ _;go_simp;(try with_reducible rfl)
 try simp only [words.pt]
 have hk5:=(HV2.out.block _ (lt_of_some HK4.out)).trans HK4.out;have z6:=Jaa hk5 6;have fz6:=Jab hk5 6;obtain⟨W5,hW5⟩:=words.nm (v2.setCell ⟨b2,6,none⟩ (.string tg));have hk6:W5.heap[b2]?=some (.cells #[.int .i64 ep,.bool th,.int .i64 kd,.int .i64 lv,.int .i64 nd,.slice Af P.length cf,.string tg] 75 (0,0)):=by rw [hW5];exact heap_setCell_same v2 _ 6 _ _ _ hk5
 have ht5:Tn (fun k=>k=b2) v2 W5:=by rw [hW5];exact (Tn.refl (fun k=>k=b2) v2).setCell (p:=⟨b2,6,none⟩) (.inr rfl) _
 have hb5:Below W1.heap.size W1 W5:=((Tn.of_below (HB4.out.trans (HV2.out.mono HB4.out.size)) (fun k=>k=b2)).trans ht5).below (fun k hk=>by rw [hk,HBe2.out];exact HB3.out.size) (Nat.le_refl _);have hsp5:dca.Sp W5 0 Af P.length P:=(HSp4.out.later HV2.out).kept (S:=fun t=>t=75) (ht5.kept (fun k hk=>by subst hk;exact⟨Nat.zero_le _,_,_,_,hk5,rfl⟩)) (by decide);have HW5:=hid hW5;have HB5:=hid hb5;have HSp5:=hid hsp5;have HK5:=hid hk6;clear hk5 hW5 ht5 hb5 hsp5 hk6;refine held.wpT_one (i:=10) (by kernel_rfl) rfl (fun Kc hK=>?_);go_simp
 rw [←HW5.out];refine hK.out _ _ (fun h=>absurd h (by decide)) ?_;clear hK HW5 z6 fz6;try simp only [words.pt]
 refine held.wpT_done (by kernel_rfl) ?_ _;have hg1:=(HB5.out.block _ (lt_of_some HZ.out)).trans HZ.out;have hb9:=HB5.out;have hsp9:=HSp5.out;have e0:=Jaa HK5.out 0;have e1:=Jaa HK5.out 1;have e2:=Jaa HK5.out 2;have e3:=Jaa HK5.out 3;have e4:=Jaa HK5.out 4;have e5:=Jaa HK5.out 5;have e6:=Jaa HK5.out 6;obtain⟨W9,hW9⟩:=words.nm (((((((W5.setCell ⟨g1,0,none⟩ (.int .i64 ep)).setCell ⟨g1,1,none⟩ (.bool th)).setCell ⟨g1,2,none⟩ (.int .i64 kd)).setCell ⟨g1,3,none⟩ (.int .i64 lv)).setCell ⟨g1,4,none⟩ (.int .i64 nd)).setCell ⟨g1,5,none⟩ (.slice Af P.length cf)).setCell ⟨g1,6,none⟩ (.string tg));have h9:W9=setsV W5 g1 0 [.int .i64 ep,.bool th,.int .i64 kd,.int .i64 lv,.int .i64 nd,.slice Af P.length cf,.string tg]:=hW9;have hk9:W9.heap[g1]?=some (.cells #[.int .i64 ep,.bool th,.int .i64 kd,.int .i64 lv,.int .i64 nd,.slice Af P.length cf,.string tg] 75 (0,0)):=by rw [h9];exact Jak hg1 rfl
 have ht9:Tn (fun k=>k=g1) W5 W9:=by rw [h9];exact Jan (S:=fun k=>k=g1) _ (.inr rfl) _ _ _ (Tn.refl _ _)
 have y0:=Jaa hg1 0;have y1:=Jaa hg1 1;have y2:=Jaa hg1 2;have y3:=Jaa hg1 3;have y4:=Jaa hg1 4;have y5:=Jaa hg1 5;have y6:=Jaa hg1 6;have z0:=Jab hg1 0;have z1:=Jab hg1 1;have z2:=Jab hg1 2;have z3:=Jab hg1 3;have z4:=Jab hg1 4;have z5:=Jab hg1 5;have z6:=Jab hg1 6;have k9:=hk9;have hE:Hid (Seen w th ep kd lv nd P tg (.returned (.agg #[.int .i64 ep,.bool th,.int .i64 kd,.int .i64 lv,.int .i64 nd,.slice Af P.length cf,.string tg])) W9):=hid ⟨Af,cf,rfl,hsp9.kept (S:=fun t=>t=75) (ht9.kept (fun k hk=>by subst hk;exact⟨Nat.zero_le _,_,_,_,hg1,rfl⟩)) (by decide),by
   have:=((Tn.of_below (HB1.out.trans (hb9.mono HB1.out.size)) (fun k=>k=g1)).trans ht9)
   exact this.below (fun k hk=>by rw [hk,HG.out];omega) (Nat.le_refl _)⟩
 have p0:=Jaa k9 0;have p1:=Jaa k9 1;have p2:=Jaa k9 2;have p3:=Jaa k9 3;have p4:=Jaa k9 4;have p5:=Jaa k9 5;have p6:=Jaa k9 6;have HW9:=hid hW9;clear hg1 hb9 hsp9 h9 hk9 ht9 hW9 k9;go_wp2_with fail
 try rw [←HW9.out]
 exact bodyPost_ret (v:= .agg #[.int .i64 ep,.bool th,.int .i64 kd,.int .i64 lv,.int .i64 nd,.slice Af P.length cf,.string tg]) (by simp [results,results51,go_sem,p0,p1,p2,p3,p4,p5,p6]) rfl hE.out
end
end Go.Proofs.YtkjpgheealfedaaGreatDoor.svr
