/- ServerLocks: true. Conditions: what is asked lies in memory; the library's MaxLen holds a number. -/
import Derived.Test.YtckjkndegjklnaaGreatDoorKO
import Derived.Test.YtckjkndegjklnaaGreatDoorKP
namespace Go.Proofs.YtckjkndegjklnaaGreatDoor.svr
set_option maxRecDepth 100000
open Go.RowKit Go.Maps words lru

structure Lo (w:World) (B:Nat) (b:Bk) (d:Sd) (mq k:Nat) (K:List (Lk×Int)) (wr:World):Prop where
 sv:Sv wr B b {d with K:=K}
 mp:Locks wr mq (kR K)
 len:K.length≤k
 bel:Below w.heap.size w wr
section
variable {w:World} {B:Nat} {b:Bk} {d:Sd} {mq k:Nat} {K K':List (Lk×Int)} {wr w':World}
theorem Lo.later (h:Lo w B b d mq k K wr) (hb:Below wr.heap.size wr w'):Lo w B b d mq k K w':=⟨h.sv.later hb,(Frm.of_below hb).mapL h.mp (fun h=>h),h.len,h.bel.trans (hb.mono h.bel.size)⟩
theorem Lo.look_ok (h:Lo w B b d mq k K wr) {l:Lk} {lb:Bool} {n:Int} (hkv:kvL l= .agg #[.bool lb,.int .i64 n]):
  (Instr.lookup 31 (.map (some mq)) (.agg #[.bool lb,.int .i64 n]) true).run Tryz.prog wr= .ok (.tuple #[((valK K l).map fun v=> .int .i64 v).getD (.int .i64 0),.bool (valK K l).isSome]) wr:=by
 have:=h.mp.look_ok keysL Tryz.underlying31 (zeroInt wr) (x:=l)
 rw [Jgs,hkv] at this
 rw [this]
 rcases valK K l with _ |v
 ·rfl
 ·rfl
theorem Lo.up (h:Lo w B b d mq k K wr):Lo w B b d mq (k+1) K wr:=⟨h.sv,h.mp,Nat.le_succ_of_le h.len,h.bel⟩
theorem Lo.own (h:Lo w B b d mq k K wr) (hs:Sv w' B b {d with K:=K'}) (ht:Tn (fun j=>j=b.mp) wr w') (hne:mq≠b.mp) (hB:w.heap.size≤B):Sv w' B b {d with K:=K'}∧Locks w' mq (kR K)∧Below w.heap.size w w':=
 ⟨hs,h.mp.of_block (ht.block mq h.mp.lt hne),h.bel.trans (ht.below (fun k hk=>by rw [hk];exact Nat.le_trans hB hs.mp) h.bel.size)⟩
theorem Lo.law (hs:Sv wr B b {d with K:=K'}) (hb:Below w.heap.size w wr) (hm:Locks w' mq (kR K')) (ht:Tn (fun j=>j=mq) wr w') (hne:mq≠b.mp) (hnm:mq≠b.m) (hq:w.heap.size≤mq) (hl:K'.length≤k) (hns:∀cs t f,wr.heap[mq]?≠some (.cells cs t f)):Lo w B b d mq k K' w':=
 have m:Frm (fun _=>False) (fun j=>j=mq) wr w':=⟨ht.os,ht.tape,ht.output,ht.size,fun k hk hn _=>ht.block k hk hn,fun k hk cs t f e=>by subst hk;exact hns cs t f e⟩
 ⟨⟨hs.ge,m.blk hs.blk (fun h=>h),m.spc hs.st (fun h=>h) (fun h=>h) (fun e=>hnm e.symm),m.dca hs.dc (fun h=>h) (fun h=>h) (fun h=>h) (fun h=>h) (fun h=>h),m.lca hs.lc (fun h=>h) (fun h=>h) (fun h=>h) (fun h=>h) (fun h=>h),m.mapL hs.lk (fun e=>hne e.symm),hs.mp,hs.ne⟩,hm,hl,hb.trans (ht.below (fun k hk=>by rw [hk];exact hq) hb.size)⟩
end
set_option maxHeartbeats 51200000 in
theorem law_locks (A:Option Addr) (c:Nat) (T:List Act21) (mx:Int) (w0:World) (hT:Act21s w0 w0.heap.size A T) (hsz:∀y∈T,y.fine) (hlen:T.length≤9223372036854775807) (hm:w0.cell? ⟨0,0,none⟩=some (.int .i64 mx)):
  Calls Tryz.prog 3 #[.slice A T.length c] w0 fun e w'=>e= .returned (.bool true)∧Below w0.heap.size w0 w':=by
 have HT:=Lib.hid hT
 have HSZ:=Lib.hid hsz
 have HC0:=Lib.hid (Jh9 mx w0 hm)
 clear hT hsz hm
 go_enter Tryz.func3,Tryz.ntmps3
 go_wp2_with fail
 refine HC0.out.mono ?_
 rintro e w ⟨rfl,hb1⟩
 have HB1:=Lib.hid hb1
 clear hb1 HC0
 by_cases h300:T.length≤300
 rotate_left
 ·have g300:(300:Int)<(T.length:Int):=by omega
  have g301:300<T.length:=by omega
  go_wp2_with fail
  go_ret
  exact⟨rfl,HB1.out⟩
 have g300:¬(300:Int)<(T.length:Int):=by omega
 have g301:¬300<T.length:=by omega
 obtain⟨W1,hW1⟩:=words.nm (w.alloc (.cells #[.slice none 0 0,.int .i64 0] 26))
 have hb2:=words.b1 hW1
 have hk1:W1.heap[w.heap.size]?=some (.cells #[.slice none 0 0,.int .i64 0] 26 (0,0)):=by rw [hW1];exact heap_alloc_new w _
 have s0:=Jaa hk1 0
 have s1:=Jaa hk1 1
 have HNw:=Lib.hid (show Calls Tryz.prog 7 #[.agg #[.slice none 0 0,.int .i64 0],.agg #[.int .i64 0,.int .i64 0,.int .i64 0]] W1 (MadeV none 0 [] 0 1 1 1 W1) from Ji3 none 0 [] 0 0 0 0 1 1 1 W1 (by decide) (by decide) (by decide))
 have HB2:=Lib.hid hb2
 have HW1:=Lib.hid hW1
 clear hb2 hk1 hW1
 go_upto_region 6 with fail
 rw [←HW1.out]
 have hmm:=@run_makeMap Tryz.prog
 go_wp2_with fail
 refine HNw.out.mono ?_
 rintro e w2 ⟨b,gs,gs2,rfl,_,_,hsv,hb3⟩
 obtain⟨mq,hmq⟩:=words.nm (w2.heap.size)
 obtain⟨W3,hW3⟩:=words.nm (w2.alloc (.map #[] 0))
 have hb4:Below w2.heap.size w2 W3:=by rw [hW3];exact (Below.refl _ _).alloc (Nat.le_refl _) _
 have HLo:Hid (Lo w W1.heap.size b (newD none 0 [] 0 1 1 gs gs2) mq 0 [] W3):=Lib.hid ⟨hsv.later hb4,by rw [hW3,hmq];exact mpk.MapL.made _ _ _,Nat.le_refl _,HB2.out.trans ((hb3.trans (hb4.mono hb3.size)).mono HB2.out.size)⟩
 have HNE:Hid (mq≠b.mp∧mq≠b.m∧w.heap.size≤mq∧w.heap.size≤W1.heap.size):=Lib.hid ⟨by have:=hsv.lt.2;omega,by have:=hsv.st.tb.2.2.2.lt;omega,by have:=HB2.out.size;have:=hb3.size;omega,HB2.out.size⟩
 have HW3:=Lib.hid hW3
 have HMq:=Lib.hid hmq
 clear hsv hb3 hb4 hW3 hmq HNw s0 s1
 go_upto_region 7 with fail
 clear hmm
 rw [←HMq.out,←HW3.out]
 clear HW3 HMq HW1
 go_wp2_with fail
 go_loopw [22] (fun v wr=>∃(j:Nat) (K:List (Lk×Int)),v= .int .i64 (j:Int)∧j≤T.length∧Hid (Lo w W1.heap.size b (newD none 0 [] 0 1 1 gs gs2) mq j K wr)) (fun v _=>T.length - (intOf v).toNat)
 case atStart=>exact⟨0,_,rfl,Nat.zero_le _,HLo⟩
 case round=>
  clear HLo
  obtain⟨j,K,rfl,hj,HI⟩:=hrel
  have j0:(0:Int)≤(j:Int):=by omega
  by_cases hjl:j<T.length
  rotate_left
  ·have hjl2:¬(j:Int)<(T.length:Int):=by omega
   go_wp2_with fail
   go_ret
   exact⟨rfl,HB1.out.trans (HI.out.bel.mono HB1.out.size)⟩
  have j1:(j:Int)<(T.length:Int):=by omega
  obtain⟨⟨gv,li,sh,id⟩,hp⟩:∃p,T[j]?=some p:=⟨_,List.getElem?_eq_getElem hjl⟩
  obtain⟨hf1,hf2⟩:=HSZ.out _ (List.mem_of_getElem? hp)
  obtain⟨ab,off,hA,hab,t0,t1,t2,t3⟩:=((HT.out.keep HB1.out).keep (HI.out.bel.mono HB1.out.size)) j _ hp
  subst hA
  have hf1:sh≤255:=hf1
  have hf2:id≤255:=hf2
  obtain⟨W4,hW4⟩:=words.nm (wr.alloc (.cells #[.bool gv,.bool li,.int .u8 (sh:Int),.int .u8 (id:Int)] 33))
  have hb4:Below wr.heap.size wr W4:=by rw [hW4];exact (Below.refl _ _).alloc (Nat.le_refl _) _
  have hk4:W4.heap[wr.heap.size]?=some (.cells #[.bool gv,.bool li,.int .u8 (sh:Int),.int .u8 (id:Int)] 33 (0,0)):=by rw [hW4];exact heap_alloc_new wr _
  obtain⟨a7,ha7⟩:=words.nm (wr.heap.size)
  rw [←ha7] at hk4
  obtain⟨x,hx⟩:∃x:Int,x=(id:Int):=⟨_,rfl⟩
  obtain⟨n,hn⟩:∃n:Int,n=(sh:Int):=⟨_,rfl⟩
  have hidw:IntKind.i64.wrap (id:Int)=x:=by rw [hx];exact IntWalk.i64_in _ (by omega)
  have hshw:IntKind.i64.wrap (sh:Int)=n:=by rw [hn];exact IntWalk.i64_in _ (by omega)
  obtain⟨l,hl⟩:∃l:Lk,kvL l= .agg #[.bool li,.int .i64 n]:=⟨(li,⟨sh,Nat.lt_succ_of_le hf1⟩),hn▸rfl⟩
  obtain⟨W5,hW5⟩:=words.nm (W4.alloc (.cells #[.bool li,.int .i64 n] 35))
  have hb5:Below W4.heap.size W4 W5:=by rw [hW5];exact (Below.refl _ _).alloc (Nat.le_refl _) _
  obtain⟨a8,ha8⟩:=words.nm (W4.heap.size)
  have hk8:W5.heap[a8]?=some (.cells #[.bool li,.int .i64 n] 35 (0,0)):=by rw [hW5,ha8];exact heap_alloc_new W4 _
  have hk7:=(hb5.block _ (lt_of_some hk4)).trans hk4
  have z0:=Jaa hk4 0
  have z1:=Jaa hk4 1
  have z2:=Jaa hk4 2
  have z3:=Jaa hk4 3
  have HL5:=Lib.hid (HI.out.later (hb4.trans (hb5.mono hb4.size)))
  have HK7:=Lib.hid hk7
  have HK8:=Lib.hid hk8
  have HKV:=Lib.hid hl
  have HJ:Hid (j<300):=Lib.hid (by omega)
  have h78:Hid (a7≠b.mp∧a8≠b.mp∧a7≠mq∧a8≠mq):=Lib.hid (by
    have e1:=HI.out.sv.lt.2
    have e2:=HI.out.mp.lt
    have e3:=hb4.size
    exact⟨by omega,by omega,by omega,by omega⟩)
  have HW4:=Lib.hid hW4
  have HW5:=Lib.hid hW5
  have HA7:=Lib.hid ha7
  have HA8:=Lib.hid ha8
  clear hW4 hW5 hb4 hb5 hk4 hk7 hk8 ha7 ha8 hp hf1 hf2 hx hn hl HI
  go_upto_region 10 with fail
  rw [←HA7.out,←HW4.out]
  clear t0 t1 t2 t3
  go_upto_region 11 with fail
  rw [←HA8.out,←HW5.out]
  clear HW4 HW5 HA7 HA8 z0 z1 z2 z3
  have z0:=Jaa HK7.out 0
  have z3:=Jaa HK7.out 3
  have y0:=Jaa HK8.out 0
  have y1:=Jaa HK8.out 1
  have hlk:=HL5.out.look_ok HKV.out
  rcases hv:valK K l with _ |v
  ·rw [hv] at hlk
   replace hlk:(Instr.lookup 31 (.map (some mq)) (.agg #[.bool li,.int .i64 n]) true).run Tryz.prog W5= .ok (.tuple #[.int .i64 0,.bool false]) W5:=hlk
   have HV:=Lib.hid hv
   rcases gv with _ |_
   ·have HP:=Lib.hid (Ji0 (l:=l) (id:=x) HL5.out.sv HKV.out hv (show K.length≤1000 by have:=HL5.out.len;have:=HJ.out;omega))
    clear hv
    go_wp2_with fail
    clear hlk
    refine HP.out.mono ?_
    rintro e w6 ⟨rfl,hs6,ht6⟩
    have hk7:=(ht6.block a7 (lt_of_some HK7.out) h78.out.1).trans HK7.out
    have hk8:=(ht6.block a8 (lt_of_some HK8.out) h78.out.2.1).trans HK8.out
    obtain⟨hs6,hm6,hb6⟩:=HL5.out.own hs6 ht6 HNE.out.1 HNE.out.2.2.2
    have HS6:=Lib.hid hs6
    have HM6:=Lib.hid hm6
    have HB6:=Lib.hid hb6
    clear hs6 hm6 hb6 ht6 z0 z3 y0 y1 HP
    have z3:=Jaa hk7 3
    have y0:=Jaa hk8 0
    have y1:=Jaa hk8 1
    have HNO:Hid (mpk.valP (kR K) l=none):=Lib.hid (by rw [Jgs,HV.out];rfl)
    have HLL:Hid ((kR K).length<maxLen):=Lib.hid (by rw [Jdx];have:=HL5.out.len;have:=HJ.out;simp only [maxLen];omega)
    clear hk7 hk8
    go_wp2_with (at_mapUpdate;refine mpk.wpList_new rfl _ _ _ 31 rfl 35 3 keysL Tryz.underlying31 mq (kR K) rfl HM6.out HLL.out l (.int .i64 x) (by rw [HKV.out];rfl) rfl HNO.out ?_;intro wz hm7 ht7;have HZ:Hid (Lo w W1.heap.size b (newD none 0 [] 0 1 1 gs gs2) mq (j+1) (K++[(l,x)]) wz):=Lib.hid (Lo.law HS6.out HB6.out (by rw [Jmm];exact hm7) ht7 HNE.out.1 HNE.out.2.1 HNE.out.2.2.1 (by rw [List.length_append];have:=HL5.out.len;simp;omega) (HM6.out.not));clear hm7 ht7 z3 y0 y1)
    have HHd:=Lib.hid (show Calls Tryz.prog 10 #[.pointer (some ⟨b.v,0,none⟩)] wz (fun e w'=>e= .returned (.int .i64 ((K++[(l,x)]).length:Int))∧w'=wz) from Jca HZ.out.sv)
    have hln:∀ty,(Builtin.len_ #[31] ty #[.map (some mq)]).run Tryz.prog wz= .ok (.int .i64 ((K++[(l,x)]).length:Int)) wz:=fun ty=>by
     have:=HZ.out.mp.len Tryz.underlying31 ty
     rwa [Jdx] at this
    have heq:(((K++[(l,x)]).length:Int) !=((K++[(l,x)]).length:Int))=false:=by simp
    go_upto_region 21 with fail
    go_wp2_with fail
    refine HHd.out.mono ?_
    rintro e wy ⟨rfl,rfl⟩
    go_wp2_with fail
    go_roundw
    case rel=>exact⟨j+1,_,by go_num,by omega,HZ⟩
    case measure=>simp [intOf];omega
   ·have HP0:=hv
    have HP:=Lib.hid (Jl7 (l:=l) (id:=x) HL5.out.sv HKV.out (by show valK K l≠some x;rw [HP0];exact fun e=>by cases e))
    clear hv HP0
    go_wp2_with fail
    clear hlk
    refine HP.out.mono ?_
    rintro e wz ⟨rfl,hb6⟩
    have HZ:Hid (Lo w W1.heap.size b (newD none 0 [] 0 1 1 gs gs2) mq (j+1) K wz):=Lib.hid ((HL5.out.later hb6).up)
    have hk7:=(hb6.block a7 (lt_of_some HK7.out)).trans HK7.out
    clear hb6 HP z0 z3 y0 y1
    have z3:=Jaa hk7 3
    clear hk7
    go_wp2_with fail
    clear z3
    have HHd:=Lib.hid (show Calls Tryz.prog 10 #[.pointer (some ⟨b.v,0,none⟩)] wz (fun e w'=>e= .returned (.int .i64 ((K).length:Int))∧w'=wz) from Jca HZ.out.sv)
    have hln:∀ty,(Builtin.len_ #[31] ty #[.map (some mq)]).run Tryz.prog wz= .ok (.int .i64 ((K).length:Int)) wz:=fun ty=>by
     have:=HZ.out.mp.len Tryz.underlying31 ty
     rwa [Jdx] at this
    have heq:(((K).length:Int) !=((K).length:Int))=false:=by simp
    go_wp2_with fail
    refine HHd.out.mono ?_
    rintro e wy ⟨rfl,rfl⟩
    go_wp2_with fail
    go_roundw
    case rel=>exact⟨j+1,_,by go_num,by omega,HZ⟩
    case measure=>simp [intOf];omega
  ·rw [hv] at hlk
   replace hlk:(Instr.lookup 31 (.map (some mq)) (.agg #[.bool li,.int .i64 n]) true).run Tryz.prog W5= .ok (.tuple #[.int .i64 v,.bool true]) W5:=hlk
   have HV:=Lib.hid hv
   rcases gv with _ |_
   ·clear hv
    have HP:=Lib.hid (Jkk (l:=l) (id:=x) HL5.out.sv HKV.out HV.out)
    go_wp2_with fail
    clear hlk
    refine HP.out.mono ?_
    rintro e wz ⟨rfl,hb6⟩
    have HZ:Hid (Lo w W1.heap.size b (newD none 0 [] 0 1 1 gs gs2) mq (j+1) K wz):=Lib.hid ((HL5.out.later hb6).up)
    have hk7:=(hb6.block a7 (lt_of_some HK7.out)).trans HK7.out
    clear hb6 HP z0 z3 y0 y1
    have z3:=Jaa hk7 3
    clear hk7
    go_wp2_with fail
    clear z3
    have HHd:=Lib.hid (show Calls Tryz.prog 10 #[.pointer (some ⟨b.v,0,none⟩)] wz (fun e w'=>e= .returned (.int .i64 ((K).length:Int))∧w'=wz) from Jca HZ.out.sv)
    have hln:∀ty,(Builtin.len_ #[31] ty #[.map (some mq)]).run Tryz.prog wz= .ok (.int .i64 ((K).length:Int)) wz:=fun ty=>by
     have:=HZ.out.mp.len Tryz.underlying31 ty
     rwa [Jdx] at this
    have heq:(((K).length:Int) !=((K).length:Int))=false:=by simp
    go_wp2_with fail
    refine HHd.out.mono ?_
    rintro e wy ⟨rfl,rfl⟩
    go_wp2_with fail
    go_roundw
    case rel=>exact⟨j+1,_,by go_num,by omega,HZ⟩
    case measure=>simp [intOf];omega
   ·by_cases hvx:v=x
    rotate_left
    ·have hvb:(v==x)=false:=by simpa using hvx
     have HVX:=Lib.hid hvx
     clear hv hvx
     have HP:=Lib.hid (Jl7 (l:=l) (id:=x) HL5.out.sv HKV.out (by show valK K l≠some x;rw [HV.out];exact fun e=>HVX.out (Option.some.inj e)))
     go_wp2_with fail
     clear hlk
     refine HP.out.mono ?_
     rintro e wz ⟨rfl,hb6⟩
     have HZ:Hid (Lo w W1.heap.size b (newD none 0 [] 0 1 1 gs gs2) mq (j+1) K wz):=Lib.hid ((HL5.out.later hb6).up)
     have hk7:=(hb6.block a7 (lt_of_some HK7.out)).trans HK7.out
     clear hb6 HP z0 z3 y0 y1
     have z3:=Jaa hk7 3
     clear hk7
     go_wp2_with fail
     clear z3
     have HHd:=Lib.hid (show Calls Tryz.prog 10 #[.pointer (some ⟨b.v,0,none⟩)] wz (fun e w'=>e= .returned (.int .i64 ((K).length:Int))∧w'=wz) from Jca HZ.out.sv)
     have hln:∀ty,(Builtin.len_ #[31] ty #[.map (some mq)]).run Tryz.prog wz= .ok (.int .i64 ((K).length:Int)) wz:=fun ty=>by
      have:=HZ.out.mp.len Tryz.underlying31 ty
      rwa [Jdx] at this
     have heq:(((K).length:Int) !=((K).length:Int))=false:=by simp
     go_wp2_with fail
     refine HHd.out.mono ?_
     rintro e wy ⟨rfl,rfl⟩
     go_wp2_with fail
     go_roundw
     case rel=>exact⟨j+1,_,by go_num,by omega,HZ⟩
     case measure=>simp [intOf];omega
    have hvb:(v==x)=true:=by simpa using hvx
    have HP:=Lib.hid (Jm7 (l:=l) (id:=x) HL5.out.sv HKV.out (show valK K l=some x by rw [HV.out,hvx]))
    clear hv hvx
    go_wp2_with fail
    clear hlk
    refine HP.out.mono ?_
    rintro e w6 ⟨rfl,hs6,ht6⟩
    have hk7:=(ht6.block a7 (lt_of_some HK7.out) h78.out.1).trans HK7.out
    have hk8:=(ht6.block a8 (lt_of_some HK8.out) h78.out.2.1).trans HK8.out
    obtain⟨hs6,hm6,hb6⟩:=HL5.out.own hs6 ht6 HNE.out.1 HNE.out.2.2.2
    have HS6:=Lib.hid hs6
    have HM6:=Lib.hid hm6
    have HB6:=Lib.hid hb6
    clear hs6 hm6 hb6 ht6 z0 z3 y0 y1 HP
    have z3:=Jaa hk7 3
    have y0:=Jaa hk8 0
    have y1:=Jaa hk8 1
    clear hk7 hk8
    go_wp2_with (at_delete;refine mpk.wpList_drop rfl _ _ 31 35 rfl 3 keysL Tryz.underlying31 mq (kR K) rfl HM6.out l (by rw [HKV.out];rfl) ?_;intro wz hm7 ht7;have HZ:Hid (Lo w W1.heap.size b (newD none 0 [] 0 1 1 gs gs2) mq (j+1) (delK K l) wz):=Lib.hid (Lo.law HS6.out HB6.out (by rw [Joj];exact hm7) ht7 HNE.out.1 HNE.out.2.1 HNE.out.2.2.1 (by have:=Jnm l K;have:=HL5.out.len;omega) (HM6.out.not));clear hm7 ht7 z3 y0 y1)
    have HHd:=Lib.hid (show Calls Tryz.prog 10 #[.pointer (some ⟨b.v,0,none⟩)] wz (fun e w'=>e= .returned (.int .i64 ((delK K l).length:Int))∧w'=wz) from Jca HZ.out.sv)
    have hln:∀ty,(Builtin.len_ #[31] ty #[.map (some mq)]).run Tryz.prog wz= .ok (.int .i64 ((delK K l).length:Int)) wz:=fun ty=>by
     have:=HZ.out.mp.len Tryz.underlying31 ty
     rwa [Jdx] at this
    have heq:(((delK K l).length:Int) !=((delK K l).length:Int))=false:=by simp
    go_upto_region 21 with fail
    go_wp2_with fail
    refine HHd.out.mono ?_
    rintro e wy ⟨rfl,rfl⟩
    go_wp2_with fail
    go_roundw
    case rel=>exact⟨j+1,_,by go_num,by omega,HZ⟩
    case measure=>simp [intOf];omega
end Go.Proofs.YtckjkndegjklnaaGreatDoor.svr
