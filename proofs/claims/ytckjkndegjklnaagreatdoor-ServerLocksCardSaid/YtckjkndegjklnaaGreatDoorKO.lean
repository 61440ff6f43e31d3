/- What layer 21's speaks answers. Condition: the library's MaxLen holds a number. -/
import Derived.Test.YtckjkndegjklnaaGreatDoorKN
namespace Go.Proofs.YtckjkndegjklnaaGreatDoor.svr
set_option maxRecDepth 100000
open Go.RowKit Go.Maps words lru tre stk Go.Proofs.YtckjkndegjklnaaGreatDoor.seen

set_option maxHeartbeats 51200000 in
theorem Jh9 (mx:Int) (w:World) (hm:w.cell? ⟨0,0,none⟩=some (.int .i64 mx)):Calls Tryz.prog 6 #[] w fun e w'=>e= .returned (.bool true)∧Below w.heap.size w w':=by
 have HM:=Lib.hid hm
 clear hm
 obtain⟨W1,hW1⟩:=words.nm (w.alloc (.cells #[.string ab] 9))
 have hb1:=words.b1 hW1
 have hT1:Txts W1 W1.heap.size (some ⟨w.heap.size,0,none⟩) [ab]:=by rw [hW1];exact Jn2 w ab (by decide)
 have HT1:=Lib.hid hT1
 have HB1:=Lib.hid hb1
 have hW1':W1=w.alloc (.cells #[.string ⟨#[97]⟩] 9):=hW1
 have HW1:=Lib.hid hW1'
 clear hW1 hW1' hb1 hT1
 go_enter Tryz.func6,Tryz.ntmps6
 go_wp2_with fail
 rw [←HW1.out]
 refine (show Calls Tryz.prog 24 #[.string ⟨#[47,98]⟩] W1 _ from ((Jn0 slb W1 (by decide)).mono fun _ _ h=>h.as Jqf)).mono ?_
 rintro e w2 ⟨r2,rfl,hn2,hb2⟩
 go_wp2_with fail
 obtain⟨W4,hW4⟩:=words.nm (w2.alloc (.cells (rawCells (linkN slb) r2) 81))
 have hb4:Below w2.heap.size w2 W4:=by rw [hW4];exact (Below.refl _ _).alloc (Nat.le_refl _) _
 have hb14:Below W1.heap.size W1 W4:=hb2.trans (hb4.mono hb2.size)
 have HP4:=Lib.hid (Jop ab (linkN slb) r2 w.heap.size w2 W4 hW4 ((HT1.out.keep hb14).more hb14.size) hn2)
 have HB4:=Lib.hid (HB1.out.trans (hb14.mono HB1.out.size))
 have hW4'':W4=w2.alloc (.cells #[.int .i64 3,.bool false,.slice r2.An 0 r2.cn,.slice r2.Ai 0 r2.ci,.int .i64 0,.slice r2.Ae 0 r2.ce,.string ⟨#[47,98]⟩] 81):=hW4
 rw [←hW4'']
 clear hW4 hW4'' hb4 hb14 hn2 hb2 HT1 HB1 HW1
 refine (HP4.out.mono fun _ _ h=>h.as lk_v).mono ?_
 rintro e w6 ⟨r6,rfl,hn6,hb6⟩
 obtain⟨W7,hW7⟩:=words.nm (w6.alloc (.cells (rawCells lk r6) 81))
 have hb7:Below w6.heap.size w6 W7:=by rw [hW7];exact (Below.refl _ _).alloc (Nat.le_refl _) _
 have hb57:Below W4.heap.size W4 W7:=hb6.trans (hb7.mono hb6.size)
 have HB7:=Lib.hid (HB4.out.trans (hb57.mono HB4.out.size))
 have hT7:=Jpj hW7 hn6
 have HC:=Lib.hid (show Calls Tryz.prog 22 #[.slice (some ⟨w6.heap.size,0,none⟩) 1 1] W7 (OfOut [lk] W7) from stk.of_any _ 1 [lk] _ mx W7 hT7 (Jae HM.out HB7.out) Jo4 (by decide))
 have hW7':W7=w6.alloc (.cells #[.int .i64 2,.bool false,.slice r6.An 1 r6.cn,.slice r6.Ai 1 r6.ci,.int .i64 0,.slice r6.Ae 0 r6.ce,.string ⟨#[]⟩] 81):=hW7
 have HW7:=Lib.hid hW7'
 clear hn6 hb6 hb7 hb57 hT7 hW7 hW7' HP4 HB4
 go_wp2_with fail
 rw [←HW7.out]
 refine HC.out.mono ?_
 rintro e w8 hof
 rcases hof with⟨A,c,L,rfl,hok,_,_,hb8⟩ |⟨er,_,hbad,_⟩
 rotate_left 1
 ·exfalso
  rcases hbad with⟨_,t,ht,hf⟩ |⟨_,hlt⟩
  ·rw [Jm0 t ht] at hf;cases hf
  ·exact absurd hlt (by decide)
 obtain⟨gB,hgB⟩:=words.nm (w8.heap.size)
 obtain⟨W9,hW9⟩:=words.nm (w8.alloc (.cells #[.slice A 1 c,.int .i64 1] 26))
 have hb9:Below w8.heap.size w8 W9:=by rw [hW9];exact (Below.refl _ _).alloc (Nat.le_refl _) _
 have hk9:W9.heap[gB]?=some (.cells #[.slice A 1 c,.int .i64 1] 26 (0,0)):=by rw [hW9,hgB];exact heap_alloc_new w8 _
 have HOk:=Lib.hid (hok.later hb9)
 have HL1:Hid (L.length=1):=Lib.hid hok.len
 have HK9:=Lib.hid hk9
 have HB9:=Lib.hid ((HB7.out.trans (hb8.mono HB7.out.size)).trans (hb9.mono (HB7.out.trans (hb8.mono HB7.out.size)).size))
 have HW9:=Lib.hid hW9
 have HGB:=Lib.hid hgB
 have t9:([lk]:List Nd).length=1:=rfl
 clear hok hb8 hb9 hk9 hW9 HC HW7 HB7 hgB
 unfold stkV
 go_upto_region 2 with fail
 rw [←HGB.out,←HW9.out]
 clear HW9 t9 HGB
 have s0:=Jaa HK9.out 0
 have s1:=Jaa HK9.out 1
 have HC:=Lib.hid (show Calls Tryz.prog 25 #[.agg #[.slice A 1 c,.int .i64 1]] W9 fun e w'=>e= .returned (.int .i64 1)∧Below W9.heap.size W9 w' from Jdb A 1 c 1 W9)
 go_wp2_with fail
 refine HC.out.mono ?_
 rintro e v1 ⟨rfl,hv1⟩
 have HO1:=Lib.hid (HOk.out.later hv1)
 have HBv:=Lib.hid (HB9.out.trans (hv1.mono HB9.out.size))
 have es:=(hv1.block _ (lt_of_some HK9.out)).trans HK9.out
 have HES:=Lib.hid es
 clear HC hv1 s0 s1 HOk
 have s0:=Jaa es 0
 have s1:=Jaa es 1
 have HNw:=Lib.hid (show Calls Tryz.prog 7 #[.agg #[.slice A 1 c,.int .i64 1],.agg #[.int .i64 2,.int .i64 2,.int .i64 2]] v1 (MadeV A c L 1 2 2 2 v1) from by
   have h1:=Ji3 A c L 1 2 2 2 2 2 2 v1 (by decide) (by decide) (by decide)
   rw [HL1.out] at h1
   exact h1)
 clear es
 go_wp2_with fail
 refine HNw.out.mono ?_
 rintro e w10 ⟨b,gs,gs2,rfl,hgs,hgs2,hsv,hb10⟩
 obtain⟨i,hi⟩:=words.nm (sha.ofF kA 2)
 have hlt:i<gs.length:=by rw [hgs,hi];exact sha.ofF_lt kA (by decide)
 obtain⟨g,hg⟩:∃g,gs[i]?=some g:=⟨_,List.getElem?_eq_getElem hlt⟩
 have HLk:Hid (LkM v1 A L):=Lib.hid ⟨seen.StkOk.stkM HO1.out,HL1.out⟩
 have HX:Hid (Spk v1 w10 A c L b gs gs2 g i gB):=Lib.hid ⟨HLk.out,hb10,hgs,hi,hg,hsv,(hb10.block _ (lt_of_some HES.out)).trans HES.out⟩
 have HG2:=Lib.hid hgs2
 clear hgs hgs2 hsv hb10 hi hlt hg HNw s0 s1 HO1 HK9 HES
 go_upto_region 7 with fail
 go_cut [4,5] from 31 to 41 (fun v4 v5 wx=>∃a4 a5:Nat,v4= .pointer (some ⟨a4,0,none⟩)∧v5= .pointer (some ⟨a5,0,none⟩)∧Hid (Pst v1 w10 A c L b gs gs2 g i a4 a5 wx))
 case first=>
  obtain⟨V0,hV⟩:=words.nm (World.drew w10)
  have hQ0:Q v1 w10 A c L b gs gs2 g i 0 none none none w10:=⟨HX.out.sv,Kept.refl _ _ _,fun _ e=>(by cases e),fun _ e=>(by cases e),fun _ _ e=>(by cases e),fun _ e=>(by cases e)⟩
  have hQV0:=hQ0.later (show Below w10.heap.size w10 V0 by rw [hV];exact (Below.refl _ _).drew)
  refine wp_region_held_drew (S:=(fun w'=>w'.cell? ⟨gB,0,none⟩=some (.slice A 1 c)∧w'.cell? ⟨gB,1,none⟩=some (.int .i64 1))) (by kernel_rfl) (by rw [←hV];exact hQV0.cells HX.out) (fun hHeld=>?_)
  rw [←hV] at hHeld ⊢
  clear hV hQ0
  refine words.tk 0 31 (v:=?_) ?_ ?_
  rotate_left 1
  focus (intro w' hSw;(try dsimp only at hSw);go_simp;(try with_reducible rfl))
  try simp only [words.pt]
  refine words.tk 1 32 (v:=?_) ?_ ?_
  rotate_left 1
  focus (intro w' hSw;(try dsimp only at hSw);go_simp;(try with_reducible rfl))
  try simp only [words.pt]
  refine words.tk 2 33 (v:=?_) ?_ ?_
  rotate_left 1
  focus (intro w' hSw;(try dsimp only at hSw);go_simp;(try with_reducible rfl))
  try simp only [words.pt]
  refine words.tk 5 36 (v:=?_) ?_ ?_
  rotate_left 1
  focus (intro w' hSw;(try dsimp only at hSw);go_simp;(try with_reducible rfl))
  try simp only [words.pt]
  refine words.tk 6 37 (v:=?_) ?_ ?_
  rotate_left 1
  focus (intro w' hSw;(try dsimp only at hSw);go_simp;(try with_reducible rfl))
  try simp only [words.pt]
  refine words.tk 7 38 (v:=?_) ?_ ?_
  rotate_left 1
  focus (intro w' hSw;(try dsimp only at hSw);go_simp;(try with_reducible rfl))
  try simp only [words.pt]
  refine wpAnyH_ready (rs:=[3,10,11]) (by kernel_rfl) (by simp) ?_
  refine AllReadyH.cons rfl (fun K hK=>?_) (AllReadyH.cons rfl (fun K hK=>?_) (AllReadyH.cons rfl (fun K hK=>?_) AllReadyH.nil))
  ·go_simp
   go_at_call 27
   refine (hQV0.root HX.out).mono ?_
   rintro en v1 ⟨Ap,cp,rfl,hQv1⟩
   clear hHeld hQV0
   refine hK.out _ _ (hQv1.cells HX.out) (fun hHeld=>?_)
   clear hK
   refine wpAnyH_ready (rs:=[4,10,11]) (by kernel_rfl) (by simp) ?_
   refine AllReadyH.cons rfl (fun K hK=>?_) (AllReadyH.cons rfl (fun K hK=>?_) (AllReadyH.cons rfl (fun K hK=>?_) AllReadyH.nil))
   ·go_simp
    go_at_call 26
    refine (hQv1.see1 HX.out _).mono ?_
    rintro en v2 ⟨Af,cf,rfl,hQv2⟩
    unfold eC
    clear hHeld hQv1
    refine hK.out _ _ (hQv2.cells HX.out) (fun hHeld=>?_)
    clear hK
    refine wpAnyH_ready (rs:=[8,10,11]) (by kernel_rfl) (by simp) ?_
    refine AllReadyH.cons rfl (fun K hK=>?_) (AllReadyH.cons rfl (fun K hK=>?_) (AllReadyH.cons rfl (fun K hK=>?_) AllReadyH.nil))
    ·go_simp
     go_at_call 27
     refine (hQv2.root HX.out).mono ?_
     rintro en v3 ⟨Aq,cq,rfl,hQv3⟩
     clear hHeld hQv2
     refine hK.out _ _ (hQv3.cells HX.out) (fun hHeld=>?_)
     clear hK
     refine wpAnyH_ready (rs:=[9,10,11]) (by kernel_rfl) (by simp) ?_
     refine AllReadyH.cons rfl (fun K hK=>?_) (AllReadyH.cons rfl (fun K hK=>?_) (AllReadyH.cons rfl (fun K hK=>?_) AllReadyH.nil))
     ·go_simp
      go_at_call 26
      refine (hQv3.see2 HX.out _).mono ?_
      rintro en v4 ⟨Ag,cg,rfl,hQv4⟩
      unfold eC
      clear hHeld hQv3
      refine hK.out _ _ (hQv4.cells HX.out) (fun hHeld=>?_)
      clear hK
      refine wpAnyH_ready (rs:=[10,11]) (by kernel_rfl) (by simp) ?_
      refine AllReadyH.cons rfl (fun K hK=>?_) (AllReadyH.cons rfl (fun K hK=>?_) AllReadyH.nil)
      ·go_simp
       obtain⟨v5,hv5⟩:=words.nm (v4.alloc (.cells #[.int .i64 0,.bool false,.int .i64 0,.int .i64 0,.int .i64 0,.slice none 0 0,.string ⟨#[]⟩] 85))
       rw [←hv5]
       have hQv5:=hQv4.alloc4 hv5
       clear hHeld hv5
       refine hK.out _ _ (hQv5.cells HX.out) (fun hHeld=>?_)
       clear hK
       refine wpAnyH_ready (rs:=[11]) (by kernel_rfl) (by simp) ?_
       refine AllReadyH.cons rfl (fun K hK=>?_) AllReadyH.nil
       go_simp
       obtain⟨v6,hv6⟩:=words.nm (v5.alloc (.cells #[.int .i64 0,.bool false,.int .i64 0,.int .i64 0,.int .i64 0,.slice none 0 0,.string ⟨#[]⟩] 85))
       rw [←hv6]
       have hQv6:=hQv5.alloc5 hv6
       clear hHeld hv6
       refine hK.out _ _ (hQv6.cells HX.out) (fun hHeld=>?_)
       clear hK
       have hz:v6.heap[v4.heap.size]?=some (.cells #[.int .i64 0,.bool false,.int .i64 0,.int .i64 0,.int .i64 0,.slice none 0 0,.string ⟨#[]⟩] 85 (0,0)):=(hQv6.b4 _ rfl).2
       have y0:=Jaa hz 0
       have z0:=Jab hz 0
       have y1:=Jaa hz 1
       have z1:=Jab hz 1
       have y2:=Jaa hz 2
       have z2:=Jab hz 2
       have y3:=Jaa hz 3
       have z3:=Jab hz 3
       have y4:=Jaa hz 4
       have z4:=Jab hz 4
       have y5:=Jaa hz 5
       have z5:=Jab hz 5
       have y6:=Jaa hz 6
       have z6:=Jab hz 6
       obtain⟨V8,hV8⟩:=words.nm (((((((v6.setCell ⟨v4.heap.size,0,none⟩ (.int .i64 0)).setCell ⟨v4.heap.size,1,none⟩ (.bool true)).setCell ⟨v4.heap.size,2,none⟩ (.int .i64 3)).setCell ⟨v4.heap.size,3,none⟩ (.int .i64 0)).setCell ⟨v4.heap.size,4,none⟩ (.int .i64 1)).setCell ⟨v4.heap.size,5,none⟩ (.slice Af 0 cf)).setCell ⟨v4.heap.size,6,none⟩ (.string ⟨#[47,98]⟩))
       obtain⟨hc8,hz5,hP⟩:=hQv6.put4 HX.out Af cf V8 hV8
       have HP:=Lib.hid hP
       have HC8:=Lib.hid hc8
       have HZ5:Hid (V8.heap[v5.heap.size]?=some (.cells #[.int .i64 0,.bool false,.int .i64 0,.int .i64 0,.int .i64 0,.slice none 0 0,.string ⟨#[]⟩] 85 (0,0))):=Lib.hid hz5
       clear hP hc8 hz5 hz hQv6
       refine wpAnyH_ready (rs:=[12]) (by kernel_rfl) (by simp) ?_
       refine AllReadyH.cons rfl (fun K hK=>?_) AllReadyH.nil
       go_simp
       rw [←hV8]
       clear hHeld hV8 y0 z0 y1 z1 y2 z2 y3 z3 y4 z4 y5 z5 y6 z6
       refine hK.out _ _ HC8.out (fun hHeld=>?_)
       clear hK
       have y0:=Jaa HZ5.out 0
       have z0:=Jab HZ5.out 0
       have y1:=Jaa HZ5.out 1
       have z1:=Jab HZ5.out 1
       have y2:=Jaa HZ5.out 2
       have z2:=Jab HZ5.out 2
       have y3:=Jaa HZ5.out 3
       have z3:=Jab HZ5.out 3
       have y4:=Jaa HZ5.out 4
       have z4:=Jab HZ5.out 4
       have y5:=Jaa HZ5.out 5
       have z5:=Jab HZ5.out 5
       have y6:=Jaa HZ5.out 6
       have z6:=Jab HZ5.out 6
       obtain⟨V9,hV9⟩:=words.nm (((((((V8.setCell ⟨v5.heap.size,0,none⟩ (.int .i64 0)).setCell ⟨v5.heap.size,1,none⟩ (.bool true)).setCell ⟨v5.heap.size,2,none⟩ (.int .i64 3)).setCell ⟨v5.heap.size,3,none⟩ (.int .i64 0)).setCell ⟨v5.heap.size,4,none⟩ (.int .i64 1)).setCell ⟨v5.heap.size,5,none⟩ (.slice Ag 0 cg)).setCell ⟨v5.heap.size,6,none⟩ (.string ⟨#[47,98]⟩))
       obtain⟨hc9,hp9⟩:=HP.out Ag cg V9 hV9
       have HC9:=Lib.hid hc9
       have HP9:=Lib.hid hp9
       clear hc9 hp9 HP
       refine wpAnyH_ready (rs:=[13]) (by kernel_rfl) (by simp) ?_
       refine AllReadyH.cons rfl (fun K hK=>?_) AllReadyH.nil
       go_simp
       rw [←hV9]
       clear hHeld hV9 y0 z0 y1 z1 y2 z2 y3 z3 y4 z4 y5 z5 y6 z6
       refine hK.out _ _ HC9.out (fun hHeld=>?_)
       clear hK
       refine wpAnyH_done (by kernel_rfl) ?_ _
       clear hHeld
       go_wp2_with fail
       go_meet
       case rel=>exact⟨_,_,rfl,rfl,HP9⟩
      ·go_simp
       obtain⟨v7,hv7⟩:=words.nm (v4.alloc (.cells #[.int .i64 0,.bool false,.int .i64 0,.int .i64 0,.int .i64 0,.slice none 0 0,.string ⟨#[]⟩] 85))
       rw [←hv7]
       have hQv7:=hQv4.alloc5 hv7
       clear hHeld hv7
       refine hK.out _ _ (hQv7.cells HX.out) (fun hHeld=>?_)
       clear hK
       refine wpAnyH_ready (rs:=[10]) (by kernel_rfl) (by simp) ?_
       refine AllReadyH.cons rfl (fun K hK=>?_) AllReadyH.nil
       go_simp
       obtain⟨v8,hv8⟩:=words.nm (v7.alloc (.cells #[.int .i64 0,.bool false,.int .i64 0,.int .i64 0,.int .i64 0,.slice none 0 0,.string ⟨#[]⟩] 85))
       rw [←hv8]
       have hQv8:=hQv7.alloc4 hv8
       clear hHeld hv8
       refine hK.out _ _ (hQv8.cells HX.out) (fun hHeld=>?_)
       clear hK
       have hz:v8.heap[v7.heap.size]?=some (.cells #[.int .i64 0,.bool false,.int .i64 0,.int .i64 0,.int .i64 0,.slice none 0 0,.string ⟨#[]⟩] 85 (0,0)):=(hQv8.b4 _ rfl).2
       have y0:=Jaa hz 0
       have z0:=Jab hz 0
       have y1:=Jaa hz 1
       have z1:=Jab hz 1
       have y2:=Jaa hz 2
       have z2:=Jab hz 2
       have y3:=Jaa hz 3
       have z3:=Jab hz 3
       have y4:=Jaa hz 4
       have z4:=Jab hz 4
       have y5:=Jaa hz 5
       have z5:=Jab hz 5
       have y6:=Jaa hz 6
       have z6:=Jab hz 6
       obtain⟨V8,hV8⟩:=words.nm (((((((v8.setCell ⟨v7.heap.size,0,none⟩ (.int .i64 0)).setCell ⟨v7.heap.size,1,none⟩ (.bool true)).setCell ⟨v7.heap.size,2,none⟩ (.int .i64 3)).setCell ⟨v7.heap.size,3,none⟩ (.int .i64 0)).setCell ⟨v7.heap.size,4,none⟩ (.int .i64 1)).setCell ⟨v7.heap.size,5,none⟩ (.slice Af 0 cf)).setCell ⟨v7.heap.size,6,none⟩ (.string ⟨#[47,98]⟩))
       obtain⟨hc8,hz5,hP⟩:=hQv8.put4 HX.out Af cf V8 hV8
       have HP:=Lib.hid hP
       have HC8:=Lib.hid hc8
       have HZ5:Hid (V8.heap[v4.heap.size]?=some (.cells #[.int .i64 0,.bool false,.int .i64 0,.int .i64 0,.int .i64 0,.slice none 0 0,.string ⟨#[]⟩] 85 (0,0))):=Lib.hid hz5
       clear hP hc8 hz5 hz hQv8
       refine wpAnyH_ready (rs:=[12]) (by kernel_rfl) (by simp) ?_
       refine AllReadyH.cons rfl (fun K hK=>?_) AllReadyH.nil
       go_simp
       rw [←hV8]
       clear hHeld hV8 y0 z0 y1 z1 y2 z2 y3 z3 y4 z4 y5 z5 y6 z6
       refine hK.out _ _ HC8.out (fun hHeld=>?_)
       clear hK
       have y0:=Jaa HZ5.out 0
       have z0:=Jab HZ5.out 0
       have y1:=Jaa HZ5.out 1
       have z1:=Jab HZ5.out 1
       have y2:=Jaa HZ5.out 2
       have z2:=Jab HZ5.out 2
       have y3:=Jaa HZ5.out 3
       have z3:=Jab HZ5.out 3
       have y4:=Jaa HZ5.out 4
       have z4:=Jab HZ5.out 4
       have y5:=Jaa HZ5.out 5
       have z5:=Jab HZ5.out 5
       have y6:=Jaa HZ5.out 6
       have z6:=Jab HZ5.out 6
       obtain⟨V9,hV9⟩:=words.nm (((((((V8.setCell ⟨v4.heap.size,0,none⟩ (.int .i64 0)).setCell ⟨v4.heap.size,1,none⟩ (.bool true)).setCell ⟨v4.heap.size,2,none⟩ (.int .i64 3)).setCell ⟨v4.heap.size,3,none⟩ (.int .i64 0)).setCell ⟨v4.heap.size,4,none⟩ (.int .i64 1)).setCell ⟨v4.heap.size,5,none⟩ (.slice Ag 0 cg)).setCell ⟨v4.heap.size,6,none⟩ (.string ⟨#[47,98]⟩))
       obtain⟨hc9,hp9⟩:=HP.out Ag cg V9 hV9
       have HC9:=Lib.hid hc9
       have HP9:=Lib.hid hp9
       clear hc9 hp9 HP
       refine wpAnyH_ready (rs:=[13]) (by kernel_rfl) (by simp) ?_
       refine AllReadyH.cons rfl (fun K hK=>?_) AllReadyH.nil
       go_simp
       rw [←hV9]
       clear hHeld hV9 y0 z0 y1 z1 y2 z2 y3 z3 y4 z4 y5 z5 y6 z6
       refine hK.out _ _ HC9.out (fun hHeld=>?_)
       clear hK
       refine wpAnyH_done (by kernel_rfl) ?_ _
       clear hHeld
       go_wp2_with fail
       go_meet
       case rel=>exact⟨_,_,rfl,rfl,HP9⟩
     ·go_simp
      obtain⟨v9,hv9⟩:=words.nm (v3.alloc (.cells #[.int .i64 0,.bool false,.int .i64 0,.int .i64 0,.int .i64 0,.slice none 0 0,.string ⟨#[]⟩] 85))
      rw [←hv9]
      have hQv9:=hQv3.alloc4 hv9
      clear hHeld hv9
      refine hK.out _ _ (hQv9.cells HX.out) (fun hHeld=>?_)
      clear hK
      refine wpAnyH_ready (rs:=[9,11]) (by kernel_rfl) (by simp) ?_
      refine AllReadyH.cons rfl (fun K hK=>?_) (AllReadyH.cons rfl (fun K hK=>?_) AllReadyH.nil)
      ·go_simp
       go_at_call 26
       refine (hQv9.see2 HX.out _).mono ?_
       rintro en v10 ⟨Ag,cg,rfl,hQv10⟩
       unfold eC
       clear hHeld hQv9
       refine hK.out _ _ (hQv10.cells HX.out) (fun hHeld=>?_)
       clear hK
       refine wpAnyH_ready (rs:=[11]) (by kernel_rfl) (by simp) ?_
       refine AllReadyH.cons rfl (fun K hK=>?_) AllReadyH.nil
       go_simp
       obtain⟨v11,hv11⟩:=words.nm (v10.alloc (.cells #[.int .i64 0,.bool false,.int .i64 0,.int .i64 0,.int .i64 0,.slice none 0 0,.string ⟨#[]⟩] 85))
       rw [←hv11]
       have hQv11:=hQv10.alloc5 hv11
       clear hHeld hv11
       refine hK.out _ _ (hQv11.cells HX.out) (fun hHeld=>?_)
       clear hK
       have hz:v11.heap[v3.heap.size]?=some (.cells #[.int .i64 0,.bool false,.int .i64 0,.int .i64 0,.int .i64 0,.slice none 0 0,.string ⟨#[]⟩] 85 (0,0)):=(hQv11.b4 _ rfl).2
       have y0:=Jaa hz 0
       have z0:=Jab hz 0
       have y1:=Jaa hz 1
       have z1:=Jab hz 1
       have y2:=Jaa hz 2
       have z2:=Jab hz 2
       have y3:=Jaa hz 3
       have z3:=Jab hz 3
       have y4:=Jaa hz 4
       have z4:=Jab hz 4
       have y5:=Jaa hz 5
       have z5:=Jab hz 5
       have y6:=Jaa hz 6
       have z6:=Jab hz 6
       obtain⟨V8,hV8⟩:=words.nm (((((((v11.setCell ⟨v3.heap.size,0,none⟩ (.int .i64 0)).setCell ⟨v3.heap.size,1,none⟩ (.bool true)).setCell ⟨v3.heap.size,2,none⟩ (.int .i64 3)).setCell ⟨v3.heap.size,3,none⟩ (.int .i64 0)).setCell ⟨v3.heap.size,4,none⟩ (.int .i64 1)).setCell ⟨v3.heap.size,5,none⟩ (.slice Af 0 cf)).setCell ⟨v3.heap.size,6,none⟩ (.string ⟨#[47,98]⟩))
       obtain⟨hc8,hz5,hP⟩:=hQv11.put4 HX.out Af cf V8 hV8
       have HP:=Lib.hid hP
       have HC8:=Lib.hid hc8
       have HZ5:Hid (V8.heap[v10.heap.size]?=some (.cells #[.int .i64 0,.bool false,.int .i64 0,.int .i64 0,.int .i64 0,.slice none 0 0,.string ⟨#[]⟩] 85 (0,0))):=Lib.hid hz5
       clear hP hc8 hz5 hz hQv11
       refine wpAnyH_ready (rs:=[12]) (by kernel_rfl) (by simp) ?_
       refine AllReadyH.cons rfl (fun K hK=>?_) AllReadyH.nil
       go_simp
       rw [←hV8]
       clear hHeld hV8 y0 z0 y1 z1 y2 z2 y3 z3 y4 z4 y5 z5 y6 z6
       refine hK.out _ _ HC8.out (fun hHeld=>?_)
       clear hK
       have y0:=Jaa HZ5.out 0
       have z0:=Jab HZ5.out 0
       have y1:=Jaa HZ5.out 1
       have z1:=Jab HZ5.out 1
       have y2:=Jaa HZ5.out 2
       have z2:=Jab HZ5.out 2
       have y3:=Jaa HZ5.out 3
       have z3:=Jab HZ5.out 3
       have y4:=Jaa HZ5.out 4
       have z4:=Jab HZ5.out 4
       have y5:=Jaa HZ5.out 5
       have z5:=Jab HZ5.out 5
       have y6:=Jaa HZ5.out 6
       have z6:=Jab HZ5.out 6
       obtain⟨V9,hV9⟩:=words.nm (((((((V8.setCell ⟨v10.heap.size,0,none⟩ (.int .i64 0)).setCell ⟨v10.heap.size,1,none⟩ (.bool true)).setCell ⟨v10.heap.size,2,none⟩ (.int .i64 3)).setCell ⟨v10.heap.size,3,none⟩ (.int .i64 0)).setCell ⟨v10.heap.size,4,none⟩ (.int .i64 1)).setCell ⟨v10.heap.size,5,none⟩ (.slice Ag 0 cg)).setCell ⟨v10.heap.size,6,none⟩ (.string ⟨#[47,98]⟩))
       obtain⟨hc9,hp9⟩:=HP.out Ag cg V9 hV9
       have HC9:=Lib.hid hc9
       have HP9:=Lib.hid hp9
       clear hc9 hp9 HP
       refine wpAnyH_ready (rs:=[13]) (by kernel_rfl) (by simp) ?_
       refine AllReadyH.cons rfl (fun K hK=>?_) AllReadyH.nil
       go_simp
       rw [←hV9]
       clear hHeld hV9 y0 z0 y1 z1 y2 z2 y3 z3 y4 z4 y5 z5 y6 z6
       refine hK.out _ _ HC9.out (fun hHeld=>?_)
       clear hK
       refine wpAnyH_done (by kernel_rfl) ?_ _
       clear hHeld
       go_wp2_with fail
       go_meet
       case rel=>exact⟨_,_,rfl,rfl,HP9⟩
      ·go_simp
       obtain⟨v12,hv12⟩:=words.nm (v9.alloc (.cells #[.int .i64 0,.bool false,.int .i64 0,.int .i64 0,.int .i64 0,.slice none 0 0,.string ⟨#[]⟩] 85))
       rw [←hv12]
       have hQv12:=hQv9.alloc5 hv12
       clear hHeld hv12
       refine hK.out _ _ (hQv12.cells HX.out) (fun hHeld=>?_)
       clear hK
       refine wpAnyH_ready (rs:=[9]) (by kernel_rfl) (by simp) ?_
       refine AllReadyH.cons rfl (fun K hK=>?_) AllReadyH.nil
       go_simp
       go_at_call 26
       refine (hQv12.see2 HX.out _).mono ?_
       rintro en v13 ⟨Ag,cg,rfl,hQv13⟩
       unfold eC
       clear hHeld hQv12
       refine hK.out _ _ (hQv13.cells HX.out) (fun hHeld=>?_)
       clear hK
       have hz:v13.heap[v3.heap.size]?=some (.cells #[.int .i64 0,.bool false,.int .i64 0,.int .i64 0,.int .i64 0,.slice none 0 0,.string ⟨#[]⟩] 85 (0,0)):=(hQv13.b4 _ rfl).2
       have y0:=Jaa hz 0
       have z0:=Jab hz 0
       have y1:=Jaa hz 1
       have z1:=Jab hz 1
       have y2:=Jaa hz 2
       have z2:=Jab hz 2
       have y3:=Jaa hz 3
       have z3:=Jab hz 3
       have y4:=Jaa hz 4
       have z4:=Jab hz 4
       have y5:=Jaa hz 5
       have z5:=Jab hz 5
       have y6:=Jaa hz 6
       have z6:=Jab hz 6
       obtain⟨V8,hV8⟩:=words.nm (((((((v13.setCell ⟨v3.heap.size,0,none⟩ (.int .i64 0)).setCell ⟨v3.heap.size,1,none⟩ (.bool true)).setCell ⟨v3.heap.size,2,none⟩ (.int .i64 3)).setCell ⟨v3.heap.size,3,none⟩ (.int .i64 0)).setCell ⟨v3.heap.size,4,none⟩ (.int .i64 1)).setCell ⟨v3.heap.size,5,none⟩ (.slice Af 0 cf)).setCell ⟨v3.heap.size,6,none⟩ (.string ⟨#[47,98]⟩))
       obtain⟨hc8,hz5,hP⟩:=hQv13.put4 HX.out Af cf V8 hV8
       have HP:=Lib.hid hP
       have HC8:=Lib.hid hc8
       have HZ5:Hid (V8.heap[v9.heap.size]?=some (.cells #[.int .i64 0,.bool false,.int .i64 0,.int .i64 0,.int .i64 0,.slice none 0 0,.string ⟨#[]⟩] 85 (0,0))):=Lib.hid hz5
       clear hP hc8 hz5 hz hQv13
       refine wpAnyH_ready (rs:=[12]) (by kernel_rfl) (by simp) ?_
       refine AllReadyH.cons rfl (fun K hK=>?_) AllReadyH.nil
       go_simp
       rw [←hV8]
       clear hHeld hV8 y0 z0 y1 z1 y2 z2 y3 z3 y4 z4 y5 z5 y6 z6
       refine hK.out _ _ HC8.out (fun hHeld=>?_)
       clear hK
       have y0:=Jaa HZ5.out 0
       have z0:=Jab HZ5.out 0
       have y1:=Jaa HZ5.out 1
       have z1:=Jab HZ5.out 1
       have y2:=Jaa HZ5.out 2
       have z2:=Jab HZ5.out 2
       have y3:=Jaa HZ5.out 3
       have z3:=Jab HZ5.out 3
       have y4:=Jaa HZ5.out 4
       have z4:=Jab HZ5.out 4
       have y5:=Jaa HZ5.out 5
       have z5:=Jab HZ5.out 5
       have y6:=Jaa HZ5.out 6
       have z6:=Jab HZ5.out 6
       obtain⟨V9,hV9⟩:=words.nm (((((((V8.setCell ⟨v9.heap.size,0,none⟩ (.int .i64 0)).setCell ⟨v9.heap.size,1,none⟩ (.bool true)).setCell ⟨v9.heap.size,2,none⟩ (.int .i64 3)).setCell ⟨v9.heap.size,3,none⟩ (.int .i64 0)).setCell ⟨v9.heap.size,4,none⟩ (.int .i64 1)).setCell ⟨v9.heap.size,5,none⟩ (.slice Ag 0 cg)).setCell ⟨v9.heap.size,6,none⟩ (.string ⟨#[47,98]⟩))
       obtain⟨hc9,hp9⟩:=HP.out Ag cg V9 hV9
       have HC9:=Lib.hid hc9
       have HP9:=Lib.hid hp9
       clear hc9 hp9 HP
       refine wpAnyH_ready (rs:=[13]) (by kernel_rfl) (by simp) ?_
       refine AllReadyH.cons rfl (fun K hK=>?_) AllReadyH.nil
       go_simp
       rw [←hV9]
       clear hHeld hV9 y0 z0 y1 z1 y2 z2 y3 z3 y4 z4 y5 z5 y6 z6
       refine hK.out _ _ HC9.out (fun hHeld=>?_)
       clear hK
       refine wpAnyH_done (by kernel_rfl) ?_ _
       clear hHeld
       go_wp2_with fail
       go_meet
       case rel=>exact⟨_,_,rfl,rfl,HP9⟩
     ·go_simp
      obtain⟨v14,hv14⟩:=words.nm (v3.alloc (.cells #[.int .i64 0,.bool false,.int .i64 0,.int .i64 0,.int .i64 0,.slice none 0 0,.string ⟨#[]⟩] 85))
      rw [←hv14]
      have hQv14:=hQv3.alloc5 hv14
      clear hHeld hv14
      refine hK.out _ _ (hQv14.cells HX.out) (fun hHeld=>?_)
      clear hK
      refine wpAnyH_ready (rs:=[9,10]) (by kernel_rfl) (by simp) ?_
      refine AllReadyH.cons rfl (fun K hK=>?_) (AllReadyH.cons rfl (fun K hK=>?_) AllReadyH.nil)
      ·go_simp
       go_at_call 26
       refine (hQv14.see2 HX.out _).mono ?_
       rintro en v15 ⟨Ag,cg,rfl,hQv15⟩
       unfold eC
       clear hHeld hQv14
       refine hK.out _ _ (hQv15.cells HX.out) (fun hHeld=>?_)
       clear hK
       refine wpAnyH_ready (rs:=[10]) (by kernel_rfl) (by simp) ?_
       refine AllReadyH.cons rfl (fun K hK=>?_) AllReadyH.nil
       go_simp
       obtain⟨v16,hv16⟩:=words.nm (v15.alloc (.cells #[.int .i64 0,.bool false,.int .i64 0,.int .i64 0,.int .i64 0,.slice none 0 0,.string ⟨#[]⟩] 85))
       rw [←hv16]
       have hQv16:=hQv15.alloc4 hv16
       clear hHeld hv16
       refine hK.out _ _ (hQv16.cells HX.out) (fun hHeld=>?_)
       clear hK
       have hz:v16.heap[v15.heap.size]?=some (.cells #[.int .i64 0,.bool false,.int .i64 0,.int .i64 0,.int .i64 0,.slice none 0 0,.string ⟨#[]⟩] 85 (0,0)):=(hQv16.b4 _ rfl).2
       have y0:=Jaa hz 0
       have z0:=Jab hz 0
       have y1:=Jaa hz 1
       have z1:=Jab hz 1
       have y2:=Jaa hz 2
       have z2:=Jab hz 2
       have y3:=Jaa hz 3
       have z3:=Jab hz 3
       have y4:=Jaa hz 4
       have z4:=Jab hz 4
       have y5:=Jaa hz 5
       have z5:=Jab hz 5
       have y6:=Jaa hz 6
       have z6:=Jab hz 6
       obtain⟨V8,hV8⟩:=words.nm (((((((v16.setCell ⟨v15.heap.size,0,none⟩ (.int .i64 0)).setCell ⟨v15.heap.size,1,none⟩ (.bool true)).setCell ⟨v15.heap.size,2,none⟩ (.int .i64 3)).setCell ⟨v15.heap.size,3,none⟩ (.int .i64 0)).setCell ⟨v15.heap.size,4,none⟩ (.int .i64 1)).setCell ⟨v15.heap.size,5,none⟩ (.slice Af 0 cf)).setCell ⟨v15.heap.size,6,none⟩ (.string ⟨#[47,98]⟩))
       obtain⟨hc8,hz5,hP⟩:=hQv16.put4 HX.out Af cf V8 hV8
       have HP:=Lib.hid hP
       have HC8:=Lib.hid hc8
       have HZ5:Hid (V8.heap[v3.heap.size]?=some (.cells #[.int .i64 0,.bool false,.int .i64 0,.int .i64 0,.int .i64 0,.slice none 0 0,.string ⟨#[]⟩] 85 (0,0))):=Lib.hid hz5
       clear hP hc8 hz5 hz hQv16
       refine wpAnyH_ready (rs:=[12]) (by kernel_rfl) (by simp) ?_
       refine AllReadyH.cons rfl (fun K hK=>?_) AllReadyH.nil
       go_simp
       rw [←hV8]
       clear hHeld hV8 y0 z0 y1 z1 y2 z2 y3 z3 y4 z4 y5 z5 y6 z6
       refine hK.out _ _ HC8.out (fun hHeld=>?_)
       clear hK
       have y0:=Jaa HZ5.out 0
       have z0:=Jab HZ5.out 0
       have y1:=Jaa HZ5.out 1
       have z1:=Jab HZ5.out 1
       have y2:=Jaa HZ5.out 2
       have z2:=Jab HZ5.out 2
       have y3:=Jaa HZ5.out 3
       have z3:=Jab HZ5.out 3
       have y4:=Jaa HZ5.out 4
       have z4:=Jab HZ5.out 4
       have y5:=Jaa HZ5.out 5
       have z5:=Jab HZ5.out 5
       have y6:=Jaa HZ5.out 6
       have z6:=Jab HZ5.out 6
       obtain⟨V9,hV9⟩:=words.nm (((((((V8.setCell ⟨v3.heap.size,0,none⟩ (.int .i64 0)).setCell ⟨v3.heap.size,1,none⟩ (.bool true)).setCell ⟨v3.heap.size,2,none⟩ (.int .i64 3)).setCell ⟨v3.heap.size,3,none⟩ (.int .i64 0)).setCell ⟨v3.heap.size,4,none⟩ (.int .i64 1)).setCell ⟨v3.heap.size,5,none⟩ (.slice Ag 0 cg)).setCell ⟨v3.heap.size,6,none⟩ (.string ⟨#[47,98]⟩))
       obtain⟨hc9,hp9⟩:=HP.out Ag cg V9 hV9
       have HC9:=Lib.hid hc9
       have HP9:=Lib.hid hp9
       clear hc9 hp9 HP
       refine wpAnyH_ready (rs:=[13]) (by kernel_rfl) (by simp) ?_
       refine AllReadyH.cons rfl (fun K hK=>?_) AllReadyH.nil
       go_simp
       rw [←hV9]
       clear hHeld hV9 y0 z0 y1 z1 y2 z2 y3 z3 y4 z4 y5 z5 y6 z6
       refine hK.out _ _ HC9.out (fun hHeld=>?_)
       clear hK
       refine wpAnyH_done (by kernel_rfl) ?_ _
       clear hHeld
       go_wp2_with fail
       go_meet
       case rel=>exact⟨_,_,rfl,rfl,HP9⟩
      ·go_simp
       obtain⟨v17,hv17⟩:=words.nm (v14.alloc (.cells #[.int .i64 0,.bool false,.int .i64 0,.int .i64 0,.int .i64 0,.slice none 0 0,.string ⟨#[]⟩] 85))
       rw [←hv17]
       have hQv17:=hQv14.alloc4 hv17
       clear hHeld hv17
       refine hK.out _ _ (hQv17.cells HX.out) (fun hHeld=>?_)
       clear hK
       refine wpAnyH_ready (rs:=[9]) (by kernel_rfl) (by simp) ?_
       refine AllReadyH.cons rfl (fun K hK=>?_) AllReadyH.nil
       go_simp
       go_at_call 26
       refine (hQv17.see2 HX.out _).mono ?_
       rintro en v18 ⟨Ag,cg,rfl,hQv18⟩
       unfold eC
       clear hHeld hQv17
       refine hK.out _ _ (hQv18.cells HX.out) (fun hHeld=>?_)
       clear hK
       have hz:v18.heap[v14.heap.size]?=some (.cells #[.int .i64 0,.bool false,.int .i64 0,.int .i64 0,.int .i64 0,.slice none 0 0,.string ⟨#[]⟩] 85 (0,0)):=(hQv18.b4 _ rfl).2
       have y0:=Jaa hz 0
       have z0:=Jab hz 0
       have y1:=Jaa hz 1
       have z1:=Jab hz 1
       have y2:=Jaa hz 2
       have z2:=Jab hz 2
       have y3:=Jaa hz 3
       have z3:=Jab hz 3
       have y4:=Jaa hz 4
       have z4:=Jab hz 4
       have y5:=Jaa hz 5
       have z5:=Jab hz 5
       have y6:=Jaa hz 6
       have z6:=Jab hz 6
       obtain⟨V8,hV8⟩:=words.nm (((((((v18.setCell ⟨v14.heap.size,0,none⟩ (.int .i64 0)).setCell ⟨v14.heap.size,1,none⟩ (.bool true)).setCell ⟨v14.heap.size,2,none⟩ (.int .i64 3)).setCell ⟨v14.heap.size,3,none⟩ (.int .i64 0)).setCell ⟨v14.heap.size,4,none⟩ (.int .i64 1)).setCell ⟨v14.heap.size,5,none⟩ (.slice Af 0 cf)).setCell ⟨v14.heap.size,6,none⟩ (.string ⟨#[47,98]⟩))
       obtain⟨hc8,hz5,hP⟩:=hQv18.put4 HX.out Af cf V8 hV8
       have HP:=Lib.hid hP
       have HC8:=Lib.hid hc8
       have HZ5:Hid (V8.heap[v3.heap.size]?=some (.cells #[.int .i64 0,.bool false,.int .i64 0,.int .i64 0,.int .i64 0,.slice none 0 0,.string ⟨#[]⟩] 85 (0,0))):=Lib.hid hz5
       clear hP hc8 hz5 hz hQv18
       refine wpAnyH_ready (rs:=[12]) (by kernel_rfl) (by simp) ?_
       refine AllReadyH.cons rfl (fun K hK=>?_) AllReadyH.nil
       go_simp
       rw [←hV8]
       clear hHeld hV8 y0 z0 y1 z1 y2 z2 y3 z3 y4 z4 y5 z5 y6 z6
       refine hK.out _ _ HC8.out (fun hHeld=>?_)
       clear hK
       have y0:=Jaa HZ5.out 0
       have z0:=Jab HZ5.out 0
       have y1:=Jaa HZ5.out 1
       have z1:=Jab HZ5.out 1
       have y2:=Jaa HZ5.out 2
       have z2:=Jab HZ5.out 2
       have y3:=Jaa HZ5.out 3
       have z3:=Jab HZ5.out 3
       have y4:=Jaa HZ5.out 4
       have z4:=Jab HZ5.out 4
       have y5:=Jaa HZ5.out 5
       have z5:=Jab HZ5.out 5
       have y6:=Jaa HZ5.out 6
       have z6:=Jab HZ5.out 6
       obtain⟨V9,hV9⟩:=words.nm (((((((V8.setCell ⟨v3.heap.size,0,none⟩ (.int .i64 0)).setCell ⟨v3.heap.size,1,none⟩ (.bool true)).setCell ⟨v3.heap.size,2,none⟩ (.int .i64 3)).setCell ⟨v3.heap.size,3,none⟩ (.int .i64 0)).setCell ⟨v3.heap.size,4,none⟩ (.int .i64 1)).setCell ⟨v3.heap.size,5,none⟩ (.slice Ag 0 cg)).setCell ⟨v3.heap.size,6,none⟩ (.string ⟨#[47,98]⟩))
       obtain⟨hc9,hp9⟩:=HP.out Ag cg V9 hV9
       have HC9:=Lib.hid hc9
       have HP9:=Lib.hid hp9
       clear hc9 hp9 HP
       refine wpAnyH_ready (rs:=[13]) (by kernel_rfl) (by simp) ?_
       refine AllReadyH.cons rfl (fun K hK=>?_) AllReadyH.nil
       go_simp
       rw [←hV9]
       clear hHeld hV9 y0 z0 y1 z1 y2 z2 y3 z3 y4 z4 y5 z5 y6 z6
       refine hK.out _ _ HC9.out (fun hHeld=>?_)
       clear hK
       refine wpAnyH_done (by kernel_rfl) ?_ _
       clear hHeld
       go_wp2_with fail
       go_meet
       case rel=>exact⟨_,_,rfl,rfl,HP9⟩
    ·go_simp
     obtain⟨v19,hv19⟩:=words.nm (v2.alloc (.cells #[.int .i64 0,.bool false,.int .i64 0,.int .i64 0,.int .i64 0,.slice none 0 0,.string ⟨#[]⟩] 85))
     rw [←hv19]
     have hQv19:=hQv2.alloc4 hv19
     clear hHeld hv19
     refine hK.out _ _ (hQv19.cells HX.out) (fun hHeld=>?_)
     clear hK
     refine wpAnyH_ready (rs:=[8,11]) (by kernel_rfl) (by simp) ?_
     refine AllReadyH.cons rfl (fun K hK=>?_) (AllReadyH.cons rfl (fun K hK=>?_) AllReadyH.nil)
     ·go_simp
      go_at_call 27
      refine (hQv19.root HX.out).mono ?_
      rintro en v20 ⟨Aq,cq,rfl,hQv20⟩
      clear hHeld hQv19
      refine hK.out _ _ (hQv20.cells HX.out) (fun hHeld=>?_)
      clear hK
      refine wpAnyH_ready (rs:=[9,11]) (by kernel_rfl) (by simp) ?_
      refine AllReadyH.cons rfl (fun K hK=>?_) (AllReadyH.cons rfl (fun K hK=>?_) AllReadyH.nil)
      ·go_simp
       go_at_call 26
       refine (hQv20.see2 HX.out _).mono ?_
       rintro en v21 ⟨Ag,cg,rfl,hQv21⟩
       unfold eC
       clear hHeld hQv20
       refine hK.out _ _ (hQv21.cells HX.out) (fun hHeld=>?_)
       clear hK
       refine wpAnyH_ready (rs:=[11]) (by kernel_rfl) (by simp) ?_
       refine AllReadyH.cons rfl (fun K hK=>?_) AllReadyH.nil
       go_simp
       obtain⟨v22,hv22⟩:=words.nm (v21.alloc (.cells #[.int .i64 0,.bool false,.int .i64 0,.int .i64 0,.int .i64 0,.slice none 0 0,.string ⟨#[]⟩] 85))
       rw [←hv22]
       have hQv22:=hQv21.alloc5 hv22
       clear hHeld hv22
       refine hK.out _ _ (hQv22.cells HX.out) (fun hHeld=>?_)
       clear hK
       have hz:v22.heap[v2.heap.size]?=some (.cells #[.int .i64 0,.bool false,.int .i64 0,.int .i64 0,.int .i64 0,.slice none 0 0,.string ⟨#[]⟩] 85 (0,0)):=(hQv22.b4 _ rfl).2
       have y0:=Jaa hz 0
       have z0:=Jab hz 0
       have y1:=Jaa hz 1
       have z1:=Jab hz 1
       have y2:=Jaa hz 2
       have z2:=Jab hz 2
       have y3:=Jaa hz 3
       have z3:=Jab hz 3
       have y4:=Jaa hz 4
       have z4:=Jab hz 4
       have y5:=Jaa hz 5
       have z5:=Jab hz 5
       have y6:=Jaa hz 6
       have z6:=Jab hz 6
       obtain⟨V8,hV8⟩:=words.nm (((((((v22.setCell ⟨v2.heap.size,0,none⟩ (.int .i64 0)).setCell ⟨v2.heap.size,1,none⟩ (.bool true)).setCell ⟨v2.heap.size,2,none⟩ (.int .i64 3)).setCell ⟨v2.heap.size,3,none⟩ (.int .i64 0)).setCell ⟨v2.heap.size,4,none⟩ (.int .i64 1)).setCell ⟨v2.heap.size,5,none⟩ (.slice Af 0 cf)).setCell ⟨v2.heap.size,6,none⟩ (.string ⟨#[47,98]⟩))
       obtain⟨hc8,hz5,hP⟩:=hQv22.put4 HX.out Af cf V8 hV8
       have HP:=Lib.hid hP
       have HC8:=Lib.hid hc8
       have HZ5:Hid (V8.heap[v21.heap.size]?=some (.cells #[.int .i64 0,.bool false,.int .i64 0,.int .i64 0,.int .i64 0,.slice none 0 0,.string ⟨#[]⟩] 85 (0,0))):=Lib.hid hz5
       clear hP hc8 hz5 hz hQv22
       refine wpAnyH_ready (rs:=[12]) (by kernel_rfl) (by simp) ?_
       refine AllReadyH.cons rfl (fun K hK=>?_) AllReadyH.nil
       go_simp
       rw [←hV8]
       clear hHeld hV8 y0 z0 y1 z1 y2 z2 y3 z3 y4 z4 y5 z5 y6 z6
       refine hK.out _ _ HC8.out (fun hHeld=>?_)
       clear hK
       have y0:=Jaa HZ5.out 0
       have z0:=Jab HZ5.out 0
       have y1:=Jaa HZ5.out 1
       have z1:=Jab HZ5.out 1
       have y2:=Jaa HZ5.out 2
       have z2:=Jab HZ5.out 2
       have y3:=Jaa HZ5.out 3
       have z3:=Jab HZ5.out 3
       have y4:=Jaa HZ5.out 4
       have z4:=Jab HZ5.out 4
       have y5:=Jaa HZ5.out 5
       have z5:=Jab HZ5.out 5
       have y6:=Jaa HZ5.out 6
       have z6:=Jab HZ5.out 6
       obtain⟨V9,hV9⟩:=words.nm (((((((V8.setCell ⟨v21.heap.size,0,none⟩ (.int .i64 0)).setCell ⟨v21.heap.size,1,none⟩ (.bool true)).setCell ⟨v21.heap.size,2,none⟩ (.int .i64 3)).setCell ⟨v21.heap.size,3,none⟩ (.int .i64 0)).setCell ⟨v21.heap.size,4,none⟩ (.int .i64 1)).setCell ⟨v21.heap.size,5,none⟩ (.slice Ag 0 cg)).setCell ⟨v21.heap.size,6,none⟩ (.string ⟨#[47,98]⟩))
       obtain⟨hc9,hp9⟩:=HP.out Ag cg V9 hV9
       have HC9:=Lib.hid hc9
       have HP9:=Lib.hid hp9
       clear hc9 hp9 HP
       refine wpAnyH_ready (rs:=[13]) (by kernel_rfl) (by simp) ?_
       refine AllReadyH.cons rfl (fun K hK=>?_) AllReadyH.nil
       go_simp
       rw [←hV9]
       clear hHeld hV9 y0 z0 y1 z1 y2 z2 y3 z3 y4 z4 y5 z5 y6 z6
       refine hK.out _ _ HC9.out (fun hHeld=>?_)
       clear hK
       refine wpAnyH_done (by kernel_rfl) ?_ _
       clear hHeld
       go_wp2_with fail
       go_meet
       case rel=>exact⟨_,_,rfl,rfl,HP9⟩
      ·go_simp
       obtain⟨v23,hv23⟩:=words.nm (v20.alloc (.cells #[.int .i64 0,.bool false,.int .i64 0,.int .i64 0,.int .i64 0,.slice none 0 0,.string ⟨#[]⟩] 85))
       rw [←hv23]
       have hQv23:=hQv20.alloc5 hv23
       clear hHeld hv23
       refine hK.out _ _ (hQv23.cells HX.out) (fun hHeld=>?_)
       clear hK
       refine wpAnyH_ready (rs:=[9]) (by kernel_rfl) (by simp) ?_
       refine AllReadyH.cons rfl (fun K hK=>?_) AllReadyH.nil
       go_simp
       go_at_call 26
       refine (hQv23.see2 HX.out _).mono ?_
       rintro en v24 ⟨Ag,cg,rfl,hQv24⟩
       unfold eC
       clear hHeld hQv23
       refine hK.out _ _ (hQv24.cells HX.out) (fun hHeld=>?_)
       clear hK
       have hz:v24.heap[v2.heap.size]?=some (.cells #[.int .i64 0,.bool false,.int .i64 0,.int .i64 0,.int .i64 0,.slice none 0 0,.string ⟨#[]⟩] 85 (0,0)):=(hQv24.b4 _ rfl).2
       have y0:=Jaa hz 0
       have z0:=Jab hz 0
       have y1:=Jaa hz 1
       have z1:=Jab hz 1
       have y2:=Jaa hz 2
       have z2:=Jab hz 2
       have y3:=Jaa hz 3
       have z3:=Jab hz 3
       have y4:=Jaa hz 4
       have z4:=Jab hz 4
       have y5:=Jaa hz 5
       have z5:=Jab hz 5
       have y6:=Jaa hz 6
       have z6:=Jab hz 6
       obtain⟨V8,hV8⟩:=words.nm (((((((v24.setCell ⟨v2.heap.size,0,none⟩ (.int .i64 0)).setCell ⟨v2.heap.size,1,none⟩ (.bool true)).setCell ⟨v2.heap.size,2,none⟩ (.int .i64 3)).setCell ⟨v2.heap.size,3,none⟩ (.int .i64 0)).setCell ⟨v2.heap.size,4,none⟩ (.int .i64 1)).setCell ⟨v2.heap.size,5,none⟩ (.slice Af 0 cf)).setCell ⟨v2.heap.size,6,none⟩ (.string ⟨#[47,98]⟩))
       obtain⟨hc8,hz5,hP⟩:=hQv24.put4 HX.out Af cf V8 hV8
       have HP:=Lib.hid hP
       have HC8:=Lib.hid hc8
       have HZ5:Hid (V8.heap[v20.heap.size]?=some (.cells #[.int .i64 0,.bool false,.int .i64 0,.int .i64 0,.int .i64 0,.slice none 0 0,.string ⟨#[]⟩] 85 (0,0))):=Lib.hid hz5
       clear hP hc8 hz5 hz hQv24
       refine wpAnyH_ready (rs:=[12]) (by kernel_rfl) (by simp) ?_
       refine AllReadyH.cons rfl (fun K hK=>?_) AllReadyH.nil
       go_simp
       rw [←hV8]
       clear hHeld hV8 y0 z0 y1 z1 y2 z2 y3 z3 y4 z4 y5 z5 y6 z6
       refine hK.out _ _ HC8.out (fun hHeld=>?_)
       clear hK
       have y0:=Jaa HZ5.out 0
       have z0:=Jab HZ5.out 0
       have y1:=Jaa HZ5.out 1
       have z1:=Jab HZ5.out 1
       have y2:=Jaa HZ5.out 2
       have z2:=Jab HZ5.out 2
       have y3:=Jaa HZ5.out 3
       have z3:=Jab HZ5.out 3
       have y4:=Jaa HZ5.out 4
       have z4:=Jab HZ5.out 4
       have y5:=Jaa HZ5.out 5
       have z5:=Jab HZ5.out 5
       have y6:=Jaa HZ5.out 6
       have z6:=Jab HZ5.out 6
       obtain⟨V9,hV9⟩:=words.nm (((((((V8.setCell ⟨v20.heap.size,0,none⟩ (.int .i64 0)).setCell ⟨v20.heap.size,1,none⟩ (.bool true)).setCell ⟨v20.heap.size,2,none⟩ (.int .i64 3)).setCell ⟨v20.heap.size,3,none⟩ (.int .i64 0)).setCell ⟨v20.heap.size,4,none⟩ (.int .i64 1)).setCell ⟨v20.heap.size,5,none⟩ (.slice Ag 0 cg)).setCell ⟨v20.heap.size,6,none⟩ (.string ⟨#[47,98]⟩))
       obtain⟨hc9,hp9⟩:=HP.out Ag cg V9 hV9
       have HC9:=Lib.hid hc9
       have HP9:=Lib.hid hp9
       clear hc9 hp9 HP
       refine wpAnyH_ready (rs:=[13]) (by kernel_rfl) (by simp) ?_
       refine AllReadyH.cons rfl (fun K hK=>?_) AllReadyH.nil
       go_simp
       rw [←hV9]
       clear hHeld hV9 y0 z0 y1 z1 y2 z2 y3 z3 y4 z4 y5 z5 y6 z6
       refine hK.out _ _ HC9.out (fun hHeld=>?_)
       clear hK
       refine wpAnyH_done (by kernel_rfl) ?_ _
       clear hHeld
       go_wp2_with fail
       go_meet
       case rel=>exact⟨_,_,rfl,rfl,HP9⟩
     ·go_simp
      obtain⟨v25,hv25⟩:=words.nm (v19.alloc (.cells #[.int .i64 0,.bool false,.int .i64 0,.int .i64 0,.int .i64 0,.slice none 0 0,.string ⟨#[]⟩] 85))
      rw [←hv25]
      have hQv25:=hQv19.alloc5 hv25
      clear hHeld hv25
      refine hK.out _ _ (hQv25.cells HX.out) (fun hHeld=>?_)
      clear hK
      refine wpAnyH_ready (rs:=[8]) (by kernel_rfl) (by simp) ?_
      refine AllReadyH.cons rfl (fun K hK=>?_) AllReadyH.nil
      go_simp
      go_at_call 27
      refine (hQv25.root HX.out).mono ?_
      rintro en v26 ⟨Aq,cq,rfl,hQv26⟩
      clear hHeld hQv25
      refine hK.out _ _ (hQv26.cells HX.out) (fun hHeld=>?_)
      clear hK
      refine wpAnyH_ready (rs:=[9]) (by kernel_rfl) (by simp) ?_
      refine AllReadyH.cons rfl (fun K hK=>?_) AllReadyH.nil
      go_simp
      go_at_call 26
      refine (hQv26.see2 HX.out _).mono ?_
      rintro en v27 ⟨Ag,cg,rfl,hQv27⟩
      unfold eC
      clear hHeld hQv26
      refine hK.out _ _ (hQv27.cells HX.out) (fun hHeld=>?_)
      clear hK
      have hz:v27.heap[v2.heap.size]?=some (.cells #[.int .i64 0,.bool false,.int .i64 0,.int .i64 0,.int .i64 0,.slice none 0 0,.string ⟨#[]⟩] 85 (0,0)):=(hQv27.b4 _ rfl).2
      have y0:=Jaa hz 0
      have z0:=Jab hz 0
      have y1:=Jaa hz 1
      have z1:=Jab hz 1
      have y2:=Jaa hz 2
      have z2:=Jab hz 2
      have y3:=Jaa hz 3
      have z3:=Jab hz 3
      have y4:=Jaa hz 4
      have z4:=Jab hz 4
      have y5:=Jaa hz 5
      have z5:=Jab hz 5
      have y6:=Jaa hz 6
      have z6:=Jab hz 6
      obtain⟨V8,hV8⟩:=words.nm (((((((v27.setCell ⟨v2.heap.size,0,none⟩ (.int .i64 0)).setCell ⟨v2.heap.size,1,none⟩ (.bool true)).setCell ⟨v2.heap.size,2,none⟩ (.int .i64 3)).setCell ⟨v2.heap.size,3,none⟩ (.int .i64 0)).setCell ⟨v2.heap.size,4,none⟩ (.int .i64 1)).setCell ⟨v2.heap.size,5,none⟩ (.slice Af 0 cf)).setCell ⟨v2.heap.size,6,none⟩ (.string ⟨#[47,98]⟩))
      obtain⟨hc8,hz5,hP⟩:=hQv27.put4 HX.out Af cf V8 hV8
      have HP:=Lib.hid hP
      have HC8:=Lib.hid hc8
      have HZ5:Hid (V8.heap[v19.heap.size]?=some (.cells #[.int .i64 0,.bool false,.int .i64 0,.int .i64 0,.int .i64 0,.slice none 0 0,.string ⟨#[]⟩] 85 (0,0))):=Lib.hid hz5
      clear hP hc8 hz5 hz hQv27
      refine wpAnyH_ready (rs:=[12]) (by kernel_rfl) (by simp) ?_
      refine AllReadyH.cons rfl (fun K hK=>?_) AllReadyH.nil
      go_simp
      rw [←hV8]
      clear hHeld hV8 y0 z0 y1 z1 y2 z2 y3 z3 y4 z4 y5 z5 y6 z6
      refine hK.out _ _ HC8.out (fun hHeld=>?_)
      clear hK
      have y0:=Jaa HZ5.out 0
      have z0:=Jab HZ5.out 0
      have y1:=Jaa HZ5.out 1
      have z1:=Jab HZ5.out 1
      have y2:=Jaa HZ5.out 2
      have z2:=Jab HZ5.out 2
      have y3:=Jaa HZ5.out 3
      have z3:=Jab HZ5.out 3
      have y4:=Jaa HZ5.out 4
      have z4:=Jab HZ5.out 4
      have y5:=Jaa HZ5.out 5
      have z5:=Jab HZ5.out 5
      have y6:=Jaa HZ5.out 6
      have z6:=Jab HZ5.out 6
      obtain⟨V9,hV9⟩:=words.nm (((((((V8.setCell ⟨v19.heap.size,0,none⟩ (.int .i64 0)).setCell ⟨v19.heap.size,1,none⟩ (.bool true)).setCell ⟨v19.heap.size,2,none⟩ (.int .i64 3)).setCell ⟨v19.heap.size,3,none⟩ (.int .i64 0)).setCell ⟨v19.heap.size,4,none⟩ (.int .i64 1)).setCell ⟨v19.heap.size,5,none⟩ (.slice Ag 0 cg)).setCell ⟨v19.heap.size,6,none⟩ (.string ⟨#[47,98]⟩))
      obtain⟨hc9,hp9⟩:=HP.out Ag cg V9 hV9
      have HC9:=Lib.hid hc9
      have HP9:=Lib.hid hp9
      clear hc9 hp9 HP
      refine wpAnyH_ready (rs:=[13]) (by kernel_rfl) (by simp) ?_
      refine AllReadyH.cons rfl (fun K hK=>?_) AllReadyH.nil
      go_simp
      rw [←hV9]
      clear hHeld hV9 y0 z0 y1 z1 y2 z2 y3 z3 y4 z4 y5 z5 y6 z6
      refine hK.out _ _ HC9.out (fun hHeld=>?_)
      clear hK
      refine wpAnyH_done (by kernel_rfl) ?_ _
      clear hHeld
      go_wp2_with fail
      go_meet
      case rel=>exact⟨_,_,rfl,rfl,HP9⟩
    ·go_simp
     obtain⟨v28,hv28⟩:=words.nm (v2.alloc (.cells #[.int .i64 0,.bool false,.int .i64 0,.int .i64 0,.int .i64 0,.slice none 0 0,.string ⟨#[]⟩] 85))
     rw [←hv28]
     have hQv28:=hQv2.alloc5 hv28
     clear hHeld hv28
     refine hK.out _ _ (hQv28.cells HX.out) (fun hHeld=>?_)
     clear hK
     refine wpAnyH_ready (rs:=[8,10]) (by kernel_rfl) (by simp) ?_
     refine AllReadyH.cons rfl (fun K hK=>?_) (AllReadyH.cons rfl (fun K hK=>?_) AllReadyH.nil)
     ·go_simp
      go_at_call 27
      refine (hQv28.root HX.out).mono ?_
      rintro en v29 ⟨Aq,cq,rfl,hQv29⟩
      clear hHeld hQv28
      refine hK.out _ _ (hQv29.cells HX.out) (fun hHeld=>?_)
      clear hK
      refine wpAnyH_ready (rs:=[9,10]) (by kernel_rfl) (by simp) ?_
      refine AllReadyH.cons rfl (fun K hK=>?_) (AllReadyH.cons rfl (fun K hK=>?_) AllReadyH.nil)
      ·go_simp
       go_at_call 26
       refine (hQv29.see2 HX.out _).mono ?_
       rintro en v30 ⟨Ag,cg,rfl,hQv30⟩
       unfold eC
       clear hHeld hQv29
       refine hK.out _ _ (hQv30.cells HX.out) (fun hHeld=>?_)
       clear hK
       refine wpAnyH_ready (rs:=[10]) (by kernel_rfl) (by simp) ?_
       refine AllReadyH.cons rfl (fun K hK=>?_) AllReadyH.nil
       go_simp
       obtain⟨v31,hv31⟩:=words.nm (v30.alloc (.cells #[.int .i64 0,.bool false,.int .i64 0,.int .i64 0,.int .i64 0,.slice none 0 0,.string ⟨#[]⟩] 85))
       rw [←hv31]
       have hQv31:=hQv30.alloc4 hv31
       clear hHeld hv31
       refine hK.out _ _ (hQv31.cells HX.out) (fun hHeld=>?_)
       clear hK
       have hz:v31.heap[v30.heap.size]?=some (.cells #[.int .i64 0,.bool false,.int .i64 0,.int .i64 0,.int .i64 0,.slice none 0 0,.string ⟨#[]⟩] 85 (0,0)):=(hQv31.b4 _ rfl).2
       have y0:=Jaa hz 0
       have z0:=Jab hz 0
       have y1:=Jaa hz 1
       have z1:=Jab hz 1
       have y2:=Jaa hz 2
       have z2:=Jab hz 2
       have y3:=Jaa hz 3
       have z3:=Jab hz 3
       have y4:=Jaa hz 4
       have z4:=Jab hz 4
       have y5:=Jaa hz 5
       have z5:=Jab hz 5
       have y6:=Jaa hz 6
       have z6:=Jab hz 6
       obtain⟨V8,hV8⟩:=words.nm (((((((v31.setCell ⟨v30.heap.size,0,none⟩ (.int .i64 0)).setCell ⟨v30.heap.size,1,none⟩ (.bool true)).setCell ⟨v30.heap.size,2,none⟩ (.int .i64 3)).setCell ⟨v30.heap.size,3,none⟩ (.int .i64 0)).setCell ⟨v30.heap.size,4,none⟩ (.int .i64 1)).setCell ⟨v30.heap.size,5,none⟩ (.slice Af 0 cf)).setCell ⟨v30.heap.size,6,none⟩ (.string ⟨#[47,98]⟩))
       obtain⟨hc8,hz5,hP⟩:=hQv31.put4 HX.out Af cf V8 hV8
       have HP:=Lib.hid hP
       have HC8:=Lib.hid hc8
       have HZ5:Hid (V8.heap[v2.heap.size]?=some (.cells #[.int .i64 0,.bool false,.int .i64 0,.int .i64 0,.int .i64 0,.slice none 0 0,.string ⟨#[]⟩] 85 (0,0))):=Lib.hid hz5
       clear hP hc8 hz5 hz hQv31
       refine wpAnyH_ready (rs:=[12]) (by kernel_rfl) (by simp) ?_
       refine AllReadyH.cons rfl (fun K hK=>?_) AllReadyH.nil
       go_simp
       rw [←hV8]
       clear hHeld hV8 y0 z0 y1 z1 y2 z2 y3 z3 y4 z4 y5 z5 y6 z6
       refine hK.out _ _ HC8.out (fun hHeld=>?_)
       clear hK
       have y0:=Jaa HZ5.out 0
       have z0:=Jab HZ5.out 0
       have y1:=Jaa HZ5.out 1
       have z1:=Jab HZ5.out 1
       have y2:=Jaa HZ5.out 2
       have z2:=Jab HZ5.out 2
       have y3:=Jaa HZ5.out 3
       have z3:=Jab HZ5.out 3
       have y4:=Jaa HZ5.out 4
       have z4:=Jab HZ5.out 4
       have y5:=Jaa HZ5.out 5
       have z5:=Jab HZ5.out 5
       have y6:=Jaa HZ5.out 6
       have z6:=Jab HZ5.out 6
       obtain⟨V9,hV9⟩:=words.nm (((((((V8.setCell ⟨v2.heap.size,0,none⟩ (.int .i64 0)).setCell ⟨v2.heap.size,1,none⟩ (.bool true)).setCell ⟨v2.heap.size,2,none⟩ (.int .i64 3)).setCell ⟨v2.heap.size,3,none⟩ (.int .i64 0)).setCell ⟨v2.heap.size,4,none⟩ (.int .i64 1)).setCell ⟨v2.heap.size,5,none⟩ (.slice Ag 0 cg)).setCell ⟨v2.heap.size,6,none⟩ (.string ⟨#[47,98]⟩))
       obtain⟨hc9,hp9⟩:=HP.out Ag cg V9 hV9
       have HC9:=Lib.hid hc9
       have HP9:=Lib.hid hp9
       clear hc9 hp9 HP
       refine wpAnyH_ready (rs:=[13]) (by kernel_rfl) (by simp) ?_
       refine AllReadyH.cons rfl (fun K hK=>?_) AllReadyH.nil
       go_simp
       rw [←hV9]
       clear hHeld hV9 y0 z0 y1 z1 y2 z2 y3 z3 y4 z4 y5 z5 y6 z6
       refine hK.out _ _ HC9.out (fun hHeld=>?_)
       clear hK
       refine wpAnyH_done (by kernel_rfl) ?_ _
       clear hHeld
       go_wp2_with fail
       go_meet
       case rel=>exact⟨_,_,rfl,rfl,HP9⟩
      ·go_simp
       obtain⟨v32,hv32⟩:=words.nm (v29.alloc (.cells #[.int .i64 0,.bool false,.int .i64 0,.int .i64 0,.int .i64 0,.slice none 0 0,.string ⟨#[]⟩] 85))
       rw [←hv32]
       have hQv32:=hQv29.alloc4 hv32
       clear hHeld hv32
       refine hK.out _ _ (hQv32.cells HX.out) (fun hHeld=>?_)
       clear hK
       refine wpAnyH_ready (rs:=[9]) (by kernel_rfl) (by simp) ?_
       refine AllReadyH.cons rfl (fun K hK=>?_) AllReadyH.nil
       go_simp
       go_at_call 26
       refine (hQv32.see2 HX.out _).mono ?_
       rintro en v33 ⟨Ag,cg,rfl,hQv33⟩
       unfold eC
       clear hHeld hQv32
       refine hK.out _ _ (hQv33.cells HX.out) (fun hHeld=>?_)
       clear hK
       have hz:v33.heap[v29.heap.size]?=some (.cells #[.int .i64 0,.bool false,.int .i64 0,.int .i64 0,.int .i64 0,.slice none 0 0,.string ⟨#[]⟩] 85 (0,0)):=(hQv33.b4 _ rfl).2
       have y0:=Jaa hz 0
       have z0:=Jab hz 0
       have y1:=Jaa hz 1
       have z1:=Jab hz 1
       have y2:=Jaa hz 2
       have z2:=Jab hz 2
       have y3:=Jaa hz 3
       have z3:=Jab hz 3
       have y4:=Jaa hz 4
       have z4:=Jab hz 4
       have y5:=Jaa hz 5
       have z5:=Jab hz 5
       have y6:=Jaa hz 6
       have z6:=Jab hz 6
       obtain⟨V8,hV8⟩:=words.nm (((((((v33.setCell ⟨v29.heap.size,0,none⟩ (.int .i64 0)).setCell ⟨v29.heap.size,1,none⟩ (.bool true)).setCell ⟨v29.heap.size,2,none⟩ (.int .i64 3)).setCell ⟨v29.heap.size,3,none⟩ (.int .i64 0)).setCell ⟨v29.heap.size,4,none⟩ (.int .i64 1)).setCell ⟨v29.heap.size,5,none⟩ (.slice Af 0 cf)).setCell ⟨v29.heap.size,6,none⟩ (.string ⟨#[47,98]⟩))
       obtain⟨hc8,hz5,hP⟩:=hQv33.put4 HX.out Af cf V8 hV8
       have HP:=Lib.hid hP
       have HC8:=Lib.hid hc8
       have HZ5:Hid (V8.heap[v2.heap.size]?=some (.cells #[.int .i64 0,.bool false,.int .i64 0,.int .i64 0,.int .i64 0,.slice none 0 0,.string ⟨#[]⟩] 85 (0,0))):=Lib.hid hz5
       clear hP hc8 hz5 hz hQv33
       refine wpAnyH_ready (rs:=[12]) (by kernel_rfl) (by simp) ?_
       refine AllReadyH.cons rfl (fun K hK=>?_) AllReadyH.nil
       go_simp
       rw [←hV8]
       clear hHeld hV8 y0 z0 y1 z1 y2 z2 y3 z3 y4 z4 y5 z5 y6 z6
       refine hK.out _ _ HC8.out (fun hHeld=>?_)
       clear hK
       have y0:=Jaa HZ5.out 0
       have z0:=Jab HZ5.out 0
       have y1:=Jaa HZ5.out 1
       have z1:=Jab HZ5.out 1
       have y2:=Jaa HZ5.out 2
       have z2:=Jab HZ5.out 2
       have y3:=Jaa HZ5.out 3
       have z3:=Jab HZ5.out 3
       have y4:=Jaa HZ5.out 4
       have z4:=Jab HZ5.out 4
       have y5:=Jaa HZ5.out 5
       have z5:=Jab HZ5.out 5
       have y6:=Jaa HZ5.out 6
       have z6:=Jab HZ5.out 6
       obtain⟨V9,hV9⟩:=words.nm (((((((V8.setCell ⟨v2.heap.size,0,none⟩ (.int .i64 0)).setCell ⟨v2.heap.size,1,none⟩ (.bool true)).setCell ⟨v2.heap.size,2,none⟩ (.int .i64 3)).setCell ⟨v2.heap.size,3,none⟩ (.int .i64 0)).setCell ⟨v2.heap.size,4,none⟩ (.int .i64 1)).setCell ⟨v2.heap.size,5,none⟩ (.slice Ag 0 cg)).setCell ⟨v2.heap.size,6,none⟩ (.string ⟨#[47,98]⟩))
       obtain⟨hc9,hp9⟩:=HP.out Ag cg V9 hV9
       have HC9:=Lib.hid hc9
       have HP9:=Lib.hid hp9
       clear hc9 hp9 HP
       refine wpAnyH_ready (rs:=[13]) (by kernel_rfl) (by simp) ?_
       refine AllReadyH.cons rfl (fun K hK=>?_) AllReadyH.nil
       go_simp
       rw [←hV9]
       clear hHeld hV9 y0 z0 y1 z1 y2 z2 y3 z3 y4 z4 y5 z5 y6 z6
       refine hK.out _ _ HC9.out (fun hHeld=>?_)
       clear hK
       refine wpAnyH_done (by kernel_rfl) ?_ _
       clear hHeld
       go_wp2_with fail
       go_meet
       case rel=>exact⟨_,_,rfl,rfl,HP9⟩
     ·go_simp
      obtain⟨v34,hv34⟩:=words.nm (v28.alloc (.cells #[.int .i64 0,.bool false,.int .i64 0,.int .i64 0,.int .i64 0,.slice none 0 0,.string ⟨#[]⟩] 85))
      rw [←hv34]
      have hQv34:=hQv28.alloc4 hv34
      clear hHeld hv34
      refine hK.out _ _ (hQv34.cells HX.out) (fun hHeld=>?_)
      clear hK
      refine wpAnyH_ready (rs:=[8]) (by kernel_rfl) (by simp) ?_
      refine AllReadyH.cons rfl (fun K hK=>?_) AllReadyH.nil
      go_simp
      go_at_call 27
      refine (hQv34.root HX.out).mono ?_
      rintro en v35 ⟨Aq,cq,rfl,hQv35⟩
      clear hHeld hQv34
      refine hK.out _ _ (hQv35.cells HX.out) (fun hHeld=>?_)
      clear hK
      refine wpAnyH_ready (rs:=[9]) (by kernel_rfl) (by simp) ?_
      refine AllReadyH.cons rfl (fun K hK=>?_) AllReadyH.nil
      go_simp
      go_at_call 26
      refine (hQv35.see2 HX.out _).mono ?_
      rintro en v36 ⟨Ag,cg,rfl,hQv36⟩
      unfold eC
      clear hHeld hQv35
      refine hK.out _ _ (hQv36.cells HX.out) (fun hHeld=>?_)
      clear hK
      have hz:v36.heap[v28.heap.size]?=some (.cells #[.int .i64 0,.bool false,.int .i64 0,.int .i64 0,.int .i64 0,.slice none 0 0,.string ⟨#[]⟩] 85 (0,0)):=(hQv36.b4 _ rfl).2
      have y0:=Jaa hz 0
      have z0:=Jab hz 0
      have y1:=Jaa hz 1
      have z1:=Jab hz 1
      have y2:=Jaa hz 2
      have z2:=Jab hz 2
      have y3:=Jaa hz 3
      have z3:=Jab hz 3
      have y4:=Jaa hz 4
      have z4:=Jab hz 4
      have y5:=Jaa hz 5
      have z5:=Jab hz 5
      have y6:=Jaa hz 6
      have z6:=Jab hz 6
      obtain⟨V8,hV8⟩:=words.nm (((((((v36.setCell ⟨v28.heap.size,0,none⟩ (.int .i64 0)).setCell ⟨v28.heap.size,1,none⟩ (.bool true)).setCell ⟨v28.heap.size,2,none⟩ (.int .i64 3)).setCell ⟨v28.heap.size,3,none⟩ (.int .i64 0)).setCell ⟨v28.heap.size,4,none⟩ (.int .i64 1)).setCell ⟨v28.heap.size,5,none⟩ (.slice Af 0 cf)).setCell ⟨v28.heap.size,6,none⟩ (.string ⟨#[47,98]⟩))
      obtain⟨hc8,hz5,hP⟩:=hQv36.put4 HX.out Af cf V8 hV8
      have HP:=Lib.hid hP
      have HC8:=Lib.hid hc8
      have HZ5:Hid (V8.heap[v2.heap.size]?=some (.cells #[.int .i64 0,.bool false,.int .i64 0,.int .i64 0,.int .i64 0,.slice none 0 0,.string ⟨#[]⟩] 85 (0,0))):=Lib.hid hz5
      clear hP hc8 hz5 hz hQv36
      refine wpAnyH_ready (rs:=[12]) (by kernel_rfl) (by simp) ?_
      refine AllReadyH.cons rfl (fun K hK=>?_) AllReadyH.nil
      go_simp
      rw [←hV8]
      clear hHeld hV8 y0 z0 y1 z1 y2 z2 y3 z3 y4 z4 y5 z5 y6 z6
      refine hK.out _ _ HC8.out (fun hHeld=>?_)
      clear hK
      have y0:=Jaa HZ5.out 0
      have z0:=Jab HZ5.out 0
      have y1:=Jaa HZ5.out 1
      have z1:=Jab HZ5.out 1
      have y2:=Jaa HZ5.out 2
      have z2:=Jab HZ5.out 2
      have y3:=Jaa HZ5.out 3
      have z3:=Jab HZ5.out 3
      have y4:=Jaa HZ5.out 4
      have z4:=Jab HZ5.out 4
      have y5:=Jaa HZ5.out 5
      have z5:=Jab HZ5.out 5
      have y6:=Jaa HZ5.out 6
      have z6:=Jab HZ5.out 6
      obtain⟨V9,hV9⟩:=words.nm (((((((V8.setCell ⟨v2.heap.size,0,none⟩ (.int .i64 0)).setCell ⟨v2.heap.size,1,none⟩ (.bool true)).setCell ⟨v2.heap.size,2,none⟩ (.int .i64 3)).setCell ⟨v2.heap.size,3,none⟩ (.int .i64 0)).setCell ⟨v2.heap.size,4,none⟩ (.int .i64 1)).setCell ⟨v2.heap.size,5,none⟩ (.slice Ag 0 cg)).setCell ⟨v2.heap.size,6,none⟩ (.string ⟨#[47,98]⟩))
      obtain⟨hc9,hp9⟩:=HP.out Ag cg V9 hV9
      have HC9:=Lib.hid hc9
      have HP9:=Lib.hid hp9
      clear hc9 hp9 HP
      refine wpAnyH_ready (rs:=[13]) (by kernel_rfl) (by simp) ?_
      refine AllReadyH.cons rfl (fun K hK=>?_) AllReadyH.nil
      go_simp
      rw [←hV9]
      clear hHeld hV9 y0 z0 y1 z1 y2 z2 y3 z3 y4 z4 y5 z5 y6 z6
      refine hK.out _ _ HC9.out (fun hHeld=>?_)
      clear hK
      refine wpAnyH_done (by kernel_rfl) ?_ _
      clear hHeld
      go_wp2_with fail
      go_meet
      case rel=>exact⟨_,_,rfl,rfl,HP9⟩
   ·go_simp
    obtain⟨v37,hv37⟩:=words.nm (v1.alloc (.cells #[.int .i64 0,.bool false,.int .i64 0,.int .i64 0,.int .i64 0,.slice none 0 0,.string ⟨#[]⟩] 85))
    rw [←hv37]
    have hQv37:=hQv1.alloc4 hv37
    clear hHeld hv37
    refine hK.out _ _ (hQv37.cells HX.out) (fun hHeld=>?_)
    clear hK
    refine wpAnyH_ready (rs:=[4,11]) (by kernel_rfl) (by simp) ?_
    refine AllReadyH.cons rfl (fun K hK=>?_) (AllReadyH.cons rfl (fun K hK=>?_) AllReadyH.nil)
    ·go_simp
     go_at_call 26
     refine (hQv37.see1 HX.out _).mono ?_
     rintro en v38 ⟨Af,cf,rfl,hQv38⟩
     unfold eC
     clear hHeld hQv37
     refine hK.out _ _ (hQv38.cells HX.out) (fun hHeld=>?_)
     clear hK
     refine wpAnyH_ready (rs:=[8,11]) (by kernel_rfl) (by simp) ?_
     refine AllReadyH.cons rfl (fun K hK=>?_) (AllReadyH.cons rfl (fun K hK=>?_) AllReadyH.nil)
     ·go_simp
      go_at_call 27
      refine (hQv38.root HX.out).mono ?_
      rintro en v39 ⟨Aq,cq,rfl,hQv39⟩
      clear hHeld hQv38
      refine hK.out _ _ (hQv39.cells HX.out) (fun hHeld=>?_)
      clear hK
      refine wpAnyH_ready (rs:=[9,11]) (by kernel_rfl) (by simp) ?_
      refine AllReadyH.cons rfl (fun K hK=>?_) (AllReadyH.cons rfl (fun K hK=>?_) AllReadyH.nil)
      ·go_simp
       go_at_call 26
       refine (hQv39.see2 HX.out _).mono ?_
       rintro en v40 ⟨Ag,cg,rfl,hQv40⟩
       unfold eC
       clear hHeld hQv39
       refine hK.out _ _ (hQv40.cells HX.out) (fun hHeld=>?_)
       clear hK
       refine wpAnyH_ready (rs:=[11]) (by kernel_rfl) (by simp) ?_
       refine AllReadyH.cons rfl (fun K hK=>?_) AllReadyH.nil
       go_simp
       obtain⟨v41,hv41⟩:=words.nm (v40.alloc (.cells #[.int .i64 0,.bool false,.int .i64 0,.int .i64 0,.int .i64 0,.slice none 0 0,.string ⟨#[]⟩] 85))
       rw [←hv41]
       have hQv41:=hQv40.alloc5 hv41
       clear hHeld hv41
       refine hK.out _ _ (hQv41.cells HX.out) (fun hHeld=>?_)
       clear hK
       have hz:v41.heap[v1.heap.size]?=some (.cells #[.int .i64 0,.bool false,.int .i64 0,.int .i64 0,.int .i64 0,.slice none 0 0,.string ⟨#[]⟩] 85 (0,0)):=(hQv41.b4 _ rfl).2
       have y0:=Jaa hz 0
       have z0:=Jab hz 0
       have y1:=Jaa hz 1
       have z1:=Jab hz 1
       have y2:=Jaa hz 2
       have z2:=Jab hz 2
       have y3:=Jaa hz 3
       have z3:=Jab hz 3
       have y4:=Jaa hz 4
       have z4:=Jab hz 4
       have y5:=Jaa hz 5
       have z5:=Jab hz 5
       have y6:=Jaa hz 6
       have z6:=Jab hz 6
       obtain⟨V8,hV8⟩:=words.nm (((((((v41.setCell ⟨v1.heap.size,0,none⟩ (.int .i64 0)).setCell ⟨v1.heap.size,1,none⟩ (.bool true)).setCell ⟨v1.heap.size,2,none⟩ (.int .i64 3)).setCell ⟨v1.heap.size,3,none⟩ (.int .i64 0)).setCell ⟨v1.heap.size,4,none⟩ (.int .i64 1)).setCell ⟨v1.heap.size,5,none⟩ (.slice Af 0 cf)).setCell ⟨v1.heap.size,6,none⟩ (.string ⟨#[47,98]⟩))
       obtain⟨hc8,hz5,hP⟩:=hQv41.put4 HX.out Af cf V8 hV8
       have HP:=Lib.hid hP
       have HC8:=Lib.hid hc8
       have HZ5:Hid (V8.heap[v40.heap.size]?=some (.cells #[.int .i64 0,.bool false,.int .i64 0,.int .i64 0,.int .i64 0,.slice none 0 0,.string ⟨#[]⟩] 85 (0,0))):=Lib.hid hz5
       clear hP hc8 hz5 hz hQv41
       refine wpAnyH_ready (rs:=[12]) (by kernel_rfl) (by simp) ?_
       refine AllReadyH.cons rfl (fun K hK=>?_) AllReadyH.nil
       go_simp
       rw [←hV8]
       clear hHeld hV8 y0 z0 y1 z1 y2 z2 y3 z3 y4 z4 y5 z5 y6 z6
       refine hK.out _ _ HC8.out (fun hHeld=>?_)
       clear hK
       have y0:=Jaa HZ5.out 0
       have z0:=Jab HZ5.out 0
       have y1:=Jaa HZ5.out 1
       have z1:=Jab HZ5.out 1
       have y2:=Jaa HZ5.out 2
       have z2:=Jab HZ5.out 2
       have y3:=Jaa HZ5.out 3
       have z3:=Jab HZ5.out 3
       have y4:=Jaa HZ5.out 4
       have z4:=Jab HZ5.out 4
       have y5:=Jaa HZ5.out 5
       have z5:=Jab HZ5.out 5
       have y6:=Jaa HZ5.out 6
       have z6:=Jab HZ5.out 6
       obtain⟨V9,hV9⟩:=words.nm (((((((V8.setCell ⟨v40.heap.size,0,none⟩ (.int .i64 0)).setCell ⟨v40.heap.size,1,none⟩ (.bool true)).setCell ⟨v40.heap.size,2,none⟩ (.int .i64 3)).setCell ⟨v40.heap.size,3,none⟩ (.int .i64 0)).setCell ⟨v40.heap.size,4,none⟩ (.int .i64 1)).setCell ⟨v40.heap.size,5,none⟩ (.slice Ag 0 cg)).setCell ⟨v40.heap.size,6,none⟩ (.string ⟨#[47,98]⟩))
       obtain⟨hc9,hp9⟩:=HP.out Ag cg V9 hV9
       have HC9:=Lib.hid hc9
       have HP9:=Lib.hid hp9
       clear hc9 hp9 HP
       refine wpAnyH_ready (rs:=[13]) (by kernel_rfl) (by simp) ?_
       refine AllReadyH.cons rfl (fun K hK=>?_) AllReadyH.nil
       go_simp
       rw [←hV9]
       clear hHeld hV9 y0 z0 y1 z1 y2 z2 y3 z3 y4 z4 y5 z5 y6 z6
       refine hK.out _ _ HC9.out (fun hHeld=>?_)
       clear hK
       refine wpAnyH_done (by kernel_rfl) ?_ _
       clear hHeld
       go_wp2_with fail
       go_meet
       case rel=>exact⟨_,_,rfl,rfl,HP9⟩
      ·go_simp
       obtain⟨v42,hv42⟩:=words.nm (v39.alloc (.cells #[.int .i64 0,.bool false,.int .i64 0,.int .i64 0,.int .i64 0,.slice none 0 0,.string ⟨#[]⟩] 85))
       rw [←hv42]
       have hQv42:=hQv39.alloc5 hv42
       clear hHeld hv42
       refine hK.out _ _ (hQv42.cells HX.out) (fun hHeld=>?_)
       clear hK
       refine wpAnyH_ready (rs:=[9]) (by kernel_rfl) (by simp) ?_
       refine AllReadyH.cons rfl (fun K hK=>?_) AllReadyH.nil
       go_simp
       go_at_call 26
       refine (hQv42.see2 HX.out _).mono ?_
       rintro en v43 ⟨Ag,cg,rfl,hQv43⟩
       unfold eC
       clear hHeld hQv42
       refine hK.out _ _ (hQv43.cells HX.out) (fun hHeld=>?_)
       clear hK
       have hz:v43.heap[v1.heap.size]?=some (.cells #[.int .i64 0,.bool false,.int .i64 0,.int .i64 0,.int .i64 0,.slice none 0 0,.string ⟨#[]⟩] 85 (0,0)):=(hQv43.b4 _ rfl).2
       have y0:=Jaa hz 0
       have z0:=Jab hz 0
       have y1:=Jaa hz 1
       have z1:=Jab hz 1
       have y2:=Jaa hz 2
       have z2:=Jab hz 2
       have y3:=Jaa hz 3
       have z3:=Jab hz 3
       have y4:=Jaa hz 4
       have z4:=Jab hz 4
       have y5:=Jaa hz 5
       have z5:=Jab hz 5
       have y6:=Jaa hz 6
       have z6:=Jab hz 6
       obtain⟨V8,hV8⟩:=words.nm (((((((v43.setCell ⟨v1.heap.size,0,none⟩ (.int .i64 0)).setCell ⟨v1.heap.size,1,none⟩ (.bool true)).setCell ⟨v1.heap.size,2,none⟩ (.int .i64 3)).setCell ⟨v1.heap.size,3,none⟩ (.int .i64 0)).setCell ⟨v1.heap.size,4,none⟩ (.int .i64 1)).setCell ⟨v1.heap.size,5,none⟩ (.slice Af 0 cf)).setCell ⟨v1.heap.size,6,none⟩ (.string ⟨#[47,98]⟩))
       obtain⟨hc8,hz5,hP⟩:=hQv43.put4 HX.out Af cf V8 hV8
       have HP:=Lib.hid hP
       have HC8:=Lib.hid hc8
       have HZ5:Hid (V8.heap[v39.heap.size]?=some (.cells #[.int .i64 0,.bool false,.int .i64 0,.int .i64 0,.int .i64 0,.slice none 0 0,.string ⟨#[]⟩] 85 (0,0))):=Lib.hid hz5
       clear hP hc8 hz5 hz hQv43
       refine wpAnyH_ready (rs:=[12]) (by kernel_rfl) (by simp) ?_
       refine AllReadyH.cons rfl (fun K hK=>?_) AllReadyH.nil
       go_simp
       rw [←hV8]
       clear hHeld hV8 y0 z0 y1 z1 y2 z2 y3 z3 y4 z4 y5 z5 y6 z6
       refine hK.out _ _ HC8.out (fun hHeld=>?_)
       clear hK
       have y0:=Jaa HZ5.out 0
       have z0:=Jab HZ5.out 0
       have y1:=Jaa HZ5.out 1
       have z1:=Jab HZ5.out 1
       have y2:=Jaa HZ5.out 2
       have z2:=Jab HZ5.out 2
       have y3:=Jaa HZ5.out 3
       have z3:=Jab HZ5.out 3
       have y4:=Jaa HZ5.out 4
       have z4:=Jab HZ5.out 4
       have y5:=Jaa HZ5.out 5
       have z5:=Jab HZ5.out 5
       have y6:=Jaa HZ5.out 6
       have z6:=Jab HZ5.out 6
       obtain⟨V9,hV9⟩:=words.nm (((((((V8.setCell ⟨v39.heap.size,0,none⟩ (.int .i64 0)).setCell ⟨v39.heap.size,1,none⟩ (.bool true)).setCell ⟨v39.heap.size,2,none⟩ (.int .i64 3)).setCell ⟨v39.heap.size,3,none⟩ (.int .i64 0)).setCell ⟨v39.heap.size,4,none⟩ (.int .i64 1)).setCell ⟨v39.heap.size,5,none⟩ (.slice Ag 0 cg)).setCell ⟨v39.heap.size,6,none⟩ (.string ⟨#[47,98]⟩))
       obtain⟨hc9,hp9⟩:=HP.out Ag cg V9 hV9
       have HC9:=Lib.hid hc9
       have HP9:=Lib.hid hp9
       clear hc9 hp9 HP
       refine wpAnyH_ready (rs:=[13]) (by kernel_rfl) (by simp) ?_
       refine AllReadyH.cons rfl (fun K hK=>?_) AllReadyH.nil
       go_simp
       rw [←hV9]
       clear hHeld hV9 y0 z0 y1 z1 y2 z2 y3 z3 y4 z4 y5 z5 y6 z6
       refine hK.out _ _ HC9.out (fun hHeld=>?_)
       clear hK
       refine wpAnyH_done (by kernel_rfl) ?_ _
       clear hHeld
       go_wp2_with fail
       go_meet
       case rel=>exact⟨_,_,rfl,rfl,HP9⟩
     ·go_simp
      obtain⟨v44,hv44⟩:=words.nm (v38.alloc (.cells #[.int .i64 0,.bool false,.int .i64 0,.int .i64 0,.int .i64 0,.slice none 0 0,.string ⟨#[]⟩] 85))
      rw [←hv44]
      have hQv44:=hQv38.alloc5 hv44
      clear hHeld hv44
      refine hK.out _ _ (hQv44.cells HX.out) (fun hHeld=>?_)
      clear hK
      refine wpAnyH_ready (rs:=[8]) (by kernel_rfl) (by simp) ?_
      refine AllReadyH.cons rfl (fun K hK=>?_) AllReadyH.nil
      go_simp
      go_at_call 27
      refine (hQv44.root HX.out).mono ?_
      rintro en v45 ⟨Aq,cq,rfl,hQv45⟩
      clear hHeld hQv44
      refine hK.out _ _ (hQv45.cells HX.out) (fun hHeld=>?_)
      clear hK
      refine wpAnyH_ready (rs:=[9]) (by kernel_rfl) (by simp) ?_
      refine AllReadyH.cons rfl (fun K hK=>?_) AllReadyH.nil
      go_simp
      go_at_call 26
      refine (hQv45.see2 HX.out _).mono ?_
      rintro en v46 ⟨Ag,cg,rfl,hQv46⟩
      unfold eC
      clear hHeld hQv45
      refine hK.out _ _ (hQv46.cells HX.out) (fun hHeld=>?_)
      clear hK
      have hz:v46.heap[v1.heap.size]?=some (.cells #[.int .i64 0,.bool false,.int .i64 0,.int .i64 0,.int .i64 0,.slice none 0 0,.string ⟨#[]⟩] 85 (0,0)):=(hQv46.b4 _ rfl).2
      have y0:=Jaa hz 0
      have z0:=Jab hz 0
      have y1:=Jaa hz 1
      have z1:=Jab hz 1
      have y2:=Jaa hz 2
      have z2:=Jab hz 2
      have y3:=Jaa hz 3
      have z3:=Jab hz 3
      have y4:=Jaa hz 4
      have z4:=Jab hz 4
      have y5:=Jaa hz 5
      have z5:=Jab hz 5
      have y6:=Jaa hz 6
      have z6:=Jab hz 6
      obtain⟨V8,hV8⟩:=words.nm (((((((v46.setCell ⟨v1.heap.size,0,none⟩ (.int .i64 0)).setCell ⟨v1.heap.size,1,none⟩ (.bool true)).setCell ⟨v1.heap.size,2,none⟩ (.int .i64 3)).setCell ⟨v1.heap.size,3,none⟩ (.int .i64 0)).setCell ⟨v1.heap.size,4,none⟩ (.int .i64 1)).setCell ⟨v1.heap.size,5,none⟩ (.slice Af 0 cf)).setCell ⟨v1.heap.size,6,none⟩ (.string ⟨#[47,98]⟩))
      obtain⟨hc8,hz5,hP⟩:=hQv46.put4 HX.out Af cf V8 hV8
      have HP:=Lib.hid hP
      have HC8:=Lib.hid hc8
      have HZ5:Hid (V8.heap[v38.heap.size]?=some (.cells #[.int .i64 0,.bool false,.int .i64 0,.int .i64 0,.int .i64 0,.slice none 0 0,.string ⟨#[]⟩] 85 (0,0))):=Lib.hid hz5
      clear hP hc8 hz5 hz hQv46
      refine wpAnyH_ready (rs:=[12]) (by kernel_rfl) (by simp) ?_
      refine AllReadyH.cons rfl (fun K hK=>?_) AllReadyH.nil
      go_simp
      rw [←hV8]
      clear hHeld hV8 y0 z0 y1 z1 y2 z2 y3 z3 y4 z4 y5 z5 y6 z6
      refine hK.out _ _ HC8.out (fun hHeld=>?_)
      clear hK
      have y0:=Jaa HZ5.out 0
      have z0:=Jab HZ5.out 0
      have y1:=Jaa HZ5.out 1
      have z1:=Jab HZ5.out 1
      have y2:=Jaa HZ5.out 2
      have z2:=Jab HZ5.out 2
      have y3:=Jaa HZ5.out 3
      have z3:=Jab HZ5.out 3
      have y4:=Jaa HZ5.out 4
      have z4:=Jab HZ5.out 4
      have y5:=Jaa HZ5.out 5
      have z5:=Jab HZ5.out 5
      have y6:=Jaa HZ5.out 6
      have z6:=Jab HZ5.out 6
      obtain⟨V9,hV9⟩:=words.nm (((((((V8.setCell ⟨v38.heap.size,0,none⟩ (.int .i64 0)).setCell ⟨v38.heap.size,1,none⟩ (.bool true)).setCell ⟨v38.heap.size,2,none⟩ (.int .i64 3)).setCell ⟨v38.heap.size,3,none⟩ (.int .i64 0)).setCell ⟨v38.heap.size,4,none⟩ (.int .i64 1)).setCell ⟨v38.heap.size,5,none⟩ (.slice Ag 0 cg)).setCell ⟨v38.heap.size,6,none⟩ (.string ⟨#[47,98]⟩))
      obtain⟨hc9,hp9⟩:=HP.out Ag cg V9 hV9
      have HC9:=Lib.hid hc9
      have HP9:=Lib.hid hp9
      clear hc9 hp9 HP
      refine wpAnyH_ready (rs:=[13]) (by kernel_rfl) (by simp) ?_
      refine AllReadyH.cons rfl (fun K hK=>?_) AllReadyH.nil
      go_simp
      rw [←hV9]
      clear hHeld hV9 y0 z0 y1 z1 y2 z2 y3 z3 y4 z4 y5 z5 y6 z6
      refine hK.out _ _ HC9.out (fun hHeld=>?_)
      clear hK
      refine wpAnyH_done (by kernel_rfl) ?_ _
      clear hHeld
      go_wp2_with fail
      go_meet
      case rel=>exact⟨_,_,rfl,rfl,HP9⟩
    ·go_simp
     obtain⟨v47,hv47⟩:=words.nm (v37.alloc (.cells #[.int .i64 0,.bool false,.int .i64 0,.int .i64 0,.int .i64 0,.slice none 0 0,.string ⟨#[]⟩] 85))
     rw [←hv47]
     have hQv47:=hQv37.alloc5 hv47
     clear hHeld hv47
     refine hK.out _ _ (hQv47.cells HX.out) (fun hHeld=>?_)
     clear hK
     refine wpAnyH_ready (rs:=[4]) (by kernel_rfl) (by simp) ?_
     refine AllReadyH.cons rfl (fun K hK=>?_) AllReadyH.nil
     go_simp
     go_at_call 26
     refine (hQv47.see1 HX.out _).mono ?_
     rintro en v48 ⟨Af,cf,rfl,hQv48⟩
     unfold eC
     clear hHeld hQv47
     refine hK.out _ _ (hQv48.cells HX.out) (fun hHeld=>?_)
     clear hK
     refine wpAnyH_ready (rs:=[8]) (by kernel_rfl) (by simp) ?_
     refine AllReadyH.cons rfl (fun K hK=>?_) AllReadyH.nil
     go_simp
     go_at_call 27
     refine (hQv48.root HX.out).mono ?_
     rintro en v49 ⟨Aq,cq,rfl,hQv49⟩
     clear hHeld hQv48
     refine hK.out _ _ (hQv49.cells HX.out) (fun hHeld=>?_)
     clear hK
     refine wpAnyH_ready (rs:=[9]) (by kernel_rfl) (by simp) ?_
     refine AllReadyH.cons rfl (fun K hK=>?_) AllReadyH.nil
     go_simp
     go_at_call 26
     refine (hQv49.see2 HX.out _).mono ?_
     rintro en v50 ⟨Ag,cg,rfl,hQv50⟩
     unfold eC
     clear hHeld hQv49
     refine hK.out _ _ (hQv50.cells HX.out) (fun hHeld=>?_)
     clear hK
     have hz:v50.heap[v1.heap.size]?=some (.cells #[.int .i64 0,.bool false,.int .i64 0,.int .i64 0,.int .i64 0,.slice none 0 0,.string ⟨#[]⟩] 85 (0,0)):=(hQv50.b4 _ rfl).2
     have y0:=Jaa hz 0
     have z0:=Jab hz 0
     have y1:=Jaa hz 1
     have z1:=Jab hz 1
     have y2:=Jaa hz 2
     have z2:=Jab hz 2
     have y3:=Jaa hz 3
     have z3:=Jab hz 3
     have y4:=Jaa hz 4
     have z4:=Jab hz 4
     have y5:=Jaa hz 5
     have z5:=Jab hz 5
     have y6:=Jaa hz 6
     have z6:=Jab hz 6
     obtain⟨V8,hV8⟩:=words.nm (((((((v50.setCell ⟨v1.heap.size,0,none⟩ (.int .i64 0)).setCell ⟨v1.heap.size,1,none⟩ (.bool true)).setCell ⟨v1.heap.size,2,none⟩ (.int .i64 3)).setCell ⟨v1.heap.size,3,none⟩ (.int .i64 0)).setCell ⟨v1.heap.size,4,none⟩ (.int .i64 1)).setCell ⟨v1.heap.size,5,none⟩ (.slice Af 0 cf)).setCell ⟨v1.heap.size,6,none⟩ (.string ⟨#[47,98]⟩))
     obtain⟨hc8,hz5,hP⟩:=hQv50.put4 HX.out Af cf V8 hV8
     have HP:=Lib.hid hP
     have HC8:=Lib.hid hc8
     have HZ5:Hid (V8.heap[v37.heap.size]?=some (.cells #[.int .i64 0,.bool false,.int .i64 0,.int .i64 0,.int .i64 0,.slice none 0 0,.string ⟨#[]⟩] 85 (0,0))):=Lib.hid hz5
     clear hP hc8 hz5 hz hQv50
     refine wpAnyH_ready (rs:=[12]) (by kernel_rfl) (by simp) ?_
     refine AllReadyH.cons rfl (fun K hK=>?_) AllReadyH.nil
     go_simp
     rw [←hV8]
     clear hHeld hV8 y0 z0 y1 z1 y2 z2 y3 z3 y4 z4 y5 z5 y6 z6
     refine hK.out _ _ HC8.out (fun hHeld=>?_)
     clear hK
     have y0:=Jaa HZ5.out 0
     have z0:=Jab HZ5.out 0
     have y1:=Jaa HZ5.out 1
     have z1:=Jab HZ5.out 1
     have y2:=Jaa HZ5.out 2
     have z2:=Jab HZ5.out 2
     have y3:=Jaa HZ5.out 3
     have z3:=Jab HZ5.out 3
     have y4:=Jaa HZ5.out 4
     have z4:=Jab HZ5.out 4
     have y5:=Jaa HZ5.out 5
     have z5:=Jab HZ5.out 5
     have y6:=Jaa HZ5.out 6
     have z6:=Jab HZ5.out 6
     obtain⟨V9,hV9⟩:=words.nm (((((((V8.setCell ⟨v37.heap.size,0,none⟩ (.int .i64 0)).setCell ⟨v37.heap.size,1,none⟩ (.bool true)).setCell ⟨v37.heap.size,2,none⟩ (.int .i64 3)).setCell ⟨v37.heap.size,3,none⟩ (.int .i64 0)).setCell ⟨v37.heap.size,4,none⟩ (.int .i64 1)).setCell ⟨v37.heap.size,5,none⟩ (.slice Ag 0 cg)).setCell ⟨v37.heap.size,6,none⟩ (.string ⟨#[47,98]⟩))
     obtain⟨hc9,hp9⟩:=HP.out Ag cg V9 hV9
     have HC9:=Lib.hid hc9
     have HP9:=Lib.hid hp9
     clear hc9 hp9 HP
     refine wpAnyH_ready (rs:=[13]) (by kernel_rfl) (by simp) ?_
     refine AllReadyH.cons rfl (fun K hK=>?_) AllReadyH.nil
     go_simp
     rw [←hV9]
     clear hHeld hV9 y0 z0 y1 z1 y2 z2 y3 z3 y4 z4 y5 z5 y6 z6
     refine hK.out _ _ HC9.out (fun hHeld=>?_)
     clear hK
     refine wpAnyH_done (by kernel_rfl) ?_ _
     clear hHeld
     go_wp2_with fail
     go_meet
     case rel=>exact⟨_,_,rfl,rfl,HP9⟩
   ·go_simp
    obtain⟨v51,hv51⟩:=words.nm (v1.alloc (.cells #[.int .i64 0,.bool false,.int .i64 0,.int .i64 0,.int .i64 0,.slice none 0 0,.string ⟨#[]⟩] 85))
    rw [←hv51]
    have hQv51:=hQv1.alloc5 hv51
    clear hHeld hv51
    refine hK.out _ _ (hQv51.cells HX.out) (fun hHeld=>?_)
    clear hK
    refine wpAnyH_ready (rs:=[4,10]) (by kernel_rfl) (by simp) ?_
    refine AllReadyH.cons rfl (fun K hK=>?_) (AllReadyH.cons rfl (fun K hK=>?_) AllReadyH.nil)
    ·go_simp
     go_at_call 26
     refine (hQv51.see1 HX.out _).mono ?_
     rintro en v52 ⟨Af,cf,rfl,hQv52⟩
     unfold eC
     clear hHeld hQv51
     refine hK.out _ _ (hQv52.cells HX.out) (fun hHeld=>?_)
     clear hK
     refine wpAnyH_ready (rs:=[8,10]) (by kernel_rfl) (by simp) ?_
     refine AllReadyH.cons rfl (fun K hK=>?_) (AllReadyH.cons rfl (fun K hK=>?_) AllReadyH.nil)
     ·go_simp
      go_at_call 27
      refine (hQv52.root HX.out).mono ?_
      rintro en v53 ⟨Aq,cq,rfl,hQv53⟩
      clear hHeld hQv52
      refine hK.out _ _ (hQv53.cells HX.out) (fun hHeld=>?_)
      clear hK
      refine wpAnyH_ready (rs:=[9,10]) (by kernel_rfl) (by simp) ?_
      refine AllReadyH.cons rfl (fun K hK=>?_) (AllReadyH.cons rfl (fun K hK=>?_) AllReadyH.nil)
      ·go_simp
       go_at_call 26
       refine (hQv53.see2 HX.out _).mono ?_
       rintro en v54 ⟨Ag,cg,rfl,hQv54⟩
       unfold eC
       clear hHeld hQv53
       refine hK.out _ _ (hQv54.cells HX.out) (fun hHeld=>?_)
       clear hK
       refine wpAnyH_ready (rs:=[10]) (by kernel_rfl) (by simp) ?_
       refine AllReadyH.cons rfl (fun K hK=>?_) AllReadyH.nil
       go_simp
       obtain⟨v55,hv55⟩:=words.nm (v54.alloc (.cells #[.int .i64 0,.bool false,.int .i64 0,.int .i64 0,.int .i64 0,.slice none 0 0,.string ⟨#[]⟩] 85))
       rw [←hv55]
       have hQv55:=hQv54.alloc4 hv55
       clear hHeld hv55
       refine hK.out _ _ (hQv55.cells HX.out) (fun hHeld=>?_)
       clear hK
       have hz:v55.heap[v54.heap.size]?=some (.cells #[.int .i64 0,.bool false,.int .i64 0,.int .i64 0,.int .i64 0,.slice none 0 0,.string ⟨#[]⟩] 85 (0,0)):=(hQv55.b4 _ rfl).2
       have y0:=Jaa hz 0
       have z0:=Jab hz 0
       have y1:=Jaa hz 1
       have z1:=Jab hz 1
       have y2:=Jaa hz 2
       have z2:=Jab hz 2
       have y3:=Jaa hz 3
       have z3:=Jab hz 3
       have y4:=Jaa hz 4
       have z4:=Jab hz 4
       have y5:=Jaa hz 5
       have z5:=Jab hz 5
       have y6:=Jaa hz 6
       have z6:=Jab hz 6
       obtain⟨V8,hV8⟩:=words.nm (((((((v55.setCell ⟨v54.heap.size,0,none⟩ (.int .i64 0)).setCell ⟨v54.heap.size,1,none⟩ (.bool true)).setCell ⟨v54.heap.size,2,none⟩ (.int .i64 3)).setCell ⟨v54.heap.size,3,none⟩ (.int .i64 0)).setCell ⟨v54.heap.size,4,none⟩ (.int .i64 1)).setCell ⟨v54.heap.size,5,none⟩ (.slice Af 0 cf)).setCell ⟨v54.heap.size,6,none⟩ (.string ⟨#[47,98]⟩))
       obtain⟨hc8,hz5,hP⟩:=hQv55.put4 HX.out Af cf V8 hV8
       have HP:=Lib.hid hP
       have HC8:=Lib.hid hc8
       have HZ5:Hid (V8.heap[v1.heap.size]?=some (.cells #[.int .i64 0,.bool false,.int .i64 0,.int .i64 0,.int .i64 0,.slice none 0 0,.string ⟨#[]⟩] 85 (0,0))):=Lib.hid hz5
       clear hP hc8 hz5 hz hQv55
       refine wpAnyH_ready (rs:=[12]) (by kernel_rfl) (by simp) ?_
       refine AllReadyH.cons rfl (fun K hK=>?_) AllReadyH.nil
       go_simp
       rw [←hV8]
       clear hHeld hV8 y0 z0 y1 z1 y2 z2 y3 z3 y4 z4 y5 z5 y6 z6
       refine hK.out _ _ HC8.out (fun hHeld=>?_)
       clear hK
       have y0:=Jaa HZ5.out 0
       have z0:=Jab HZ5.out 0
       have y1:=Jaa HZ5.out 1
       have z1:=Jab HZ5.out 1
       have y2:=Jaa HZ5.out 2
       have z2:=Jab HZ5.out 2
       have y3:=Jaa HZ5.out 3
       have z3:=Jab HZ5.out 3
       have y4:=Jaa HZ5.out 4
       have z4:=Jab HZ5.out 4
       have y5:=Jaa HZ5.out 5
       have z5:=Jab HZ5.out 5
       have y6:=Jaa HZ5.out 6
       have z6:=Jab HZ5.out 6
       obtain⟨V9,hV9⟩:=words.nm (((((((V8.setCell ⟨v1.heap.size,0,none⟩ (.int .i64 0)).setCell ⟨v1.heap.size,1,none⟩ (.bool true)).setCell ⟨v1.heap.size,2,none⟩ (.int .i64 3)).setCell ⟨v1.heap.size,3,none⟩ (.int .i64 0)).setCell ⟨v1.heap.size,4,none⟩ (.int .i64 1)).setCell ⟨v1.heap.size,5,none⟩ (.slice Ag 0 cg)).setCell ⟨v1.heap.size,6,none⟩ (.string ⟨#[47,98]⟩))
       obtain⟨hc9,hp9⟩:=HP.out Ag cg V9 hV9
       have HC9:=Lib.hid hc9
       have HP9:=Lib.hid hp9
       clear hc9 hp9 HP
       refine wpAnyH_ready (rs:=[13]) (by kernel_rfl) (by simp) ?_
       refine AllReadyH.cons rfl (fun K hK=>?_) AllReadyH.nil
       go_simp
       rw [←hV9]
       clear hHeld hV9 y0 z0 y1 z1 y2 z2 y3 z3 y4 z4 y5 z5 y6 z6
       refine hK.out _ _ HC9.out (fun hHeld=>?_)
       clear hK
       refine wpAnyH_done (by kernel_rfl) ?_ _
       clear hHeld
       go_wp2_with fail
       go_meet
       case rel=>exact⟨_,_,rfl,rfl,HP9⟩
      ·go_simp
       obtain⟨v56,hv56⟩:=words.nm (v53.alloc (.cells #[.int .i64 0,.bool false,.int .i64 0,.int .i64 0,.int .i64 0,.slice none 0 0,.string ⟨#[]⟩] 85))
       rw [←hv56]
       have hQv56:=hQv53.alloc4 hv56
       clear hHeld hv56
       refine hK.out _ _ (hQv56.cells HX.out) (fun hHeld=>?_)
       clear hK
       refine wpAnyH_ready (rs:=[9]) (by kernel_rfl) (by simp) ?_
       refine AllReadyH.cons rfl (fun K hK=>?_) AllReadyH.nil
       go_simp
       go_at_call 26
       refine (hQv56.see2 HX.out _).mono ?_
       rintro en v57 ⟨Ag,cg,rfl,hQv57⟩
       unfold eC
       clear hHeld hQv56
       refine hK.out _ _ (hQv57.cells HX.out) (fun hHeld=>?_)
       clear hK
       have hz:v57.heap[v53.heap.size]?=some (.cells #[.int .i64 0,.bool false,.int .i64 0,.int .i64 0,.int .i64 0,.slice none 0 0,.string ⟨#[]⟩] 85 (0,0)):=(hQv57.b4 _ rfl).2
       have y0:=Jaa hz 0
       have z0:=Jab hz 0
       have y1:=Jaa hz 1
       have z1:=Jab hz 1
       have y2:=Jaa hz 2
       have z2:=Jab hz 2
       have y3:=Jaa hz 3
       have z3:=Jab hz 3
       have y4:=Jaa hz 4
       have z4:=Jab hz 4
       have y5:=Jaa hz 5
       have z5:=Jab hz 5
       have y6:=Jaa hz 6
       have z6:=Jab hz 6
       obtain⟨V8,hV8⟩:=words.nm (((((((v57.setCell ⟨v53.heap.size,0,none⟩ (.int .i64 0)).setCell ⟨v53.heap.size,1,none⟩ (.bool true)).setCell ⟨v53.heap.size,2,none⟩ (.int .i64 3)).setCell ⟨v53.heap.size,3,none⟩ (.int .i64 0)).setCell ⟨v53.heap.size,4,none⟩ (.int .i64 1)).setCell ⟨v53.heap.size,5,none⟩ (.slice Af 0 cf)).setCell ⟨v53.heap.size,6,none⟩ (.string ⟨#[47,98]⟩))
       obtain⟨hc8,hz5,hP⟩:=hQv57.put4 HX.out Af cf V8 hV8
       have HP:=Lib.hid hP
       have HC8:=Lib.hid hc8
       have HZ5:Hid (V8.heap[v1.heap.size]?=some (.cells #[.int .i64 0,.bool false,.int .i64 0,.int .i64 0,.int .i64 0,.slice none 0 0,.string ⟨#[]⟩] 85 (0,0))):=Lib.hid hz5
       clear hP hc8 hz5 hz hQv57
       refine wpAnyH_ready (rs:=[12]) (by kernel_rfl) (by simp) ?_
       refine AllReadyH.cons rfl (fun K hK=>?_) AllReadyH.nil
       go_simp
       rw [←hV8]
       clear hHeld hV8 y0 z0 y1 z1 y2 z2 y3 z3 y4 z4 y5 z5 y6 z6
       refine hK.out _ _ HC8.out (fun hHeld=>?_)
       clear hK
       have y0:=Jaa HZ5.out 0
       have z0:=Jab HZ5.out 0
       have y1:=Jaa HZ5.out 1
       have z1:=Jab HZ5.out 1
       have y2:=Jaa HZ5.out 2
       have z2:=Jab HZ5.out 2
       have y3:=Jaa HZ5.out 3
       have z3:=Jab HZ5.out 3
       have y4:=Jaa HZ5.out 4
       have z4:=Jab HZ5.out 4
       have y5:=Jaa HZ5.out 5
       have z5:=Jab HZ5.out 5
       have y6:=Jaa HZ5.out 6
       have z6:=Jab HZ5.out 6
       obtain⟨V9,hV9⟩:=words.nm (((((((V8.setCell ⟨v1.heap.size,0,none⟩ (.int .i64 0)).setCell ⟨v1.heap.size,1,none⟩ (.bool true)).setCell ⟨v1.heap.size,2,none⟩ (.int .i64 3)).setCell ⟨v1.heap.size,3,none⟩ (.int .i64 0)).setCell ⟨v1.heap.size,4,none⟩ (.int .i64 1)).setCell ⟨v1.heap.size,5,none⟩ (.slice Ag 0 cg)).setCell ⟨v1.heap.size,6,none⟩ (.string ⟨#[47,98]⟩))
       obtain⟨hc9,hp9⟩:=HP.out Ag cg V9 hV9
       have HC9:=Lib.hid hc9
       have HP9:=Lib.hid hp9
       clear hc9 hp9 HP
       refine wpAnyH_ready (rs:=[13]) (by kernel_rfl) (by simp) ?_
       refine AllReadyH.cons rfl (fun K hK=>?_) AllReadyH.nil
       go_simp
       rw [←hV9]
       clear hHeld hV9 y0 z0 y1 z1 y2 z2 y3 z3 y4 z4 y5 z5 y6 z6
       refine hK.out _ _ HC9.out (fun hHeld=>?_)
       clear hK
       refine wpAnyH_done (by kernel_rfl) ?_ _
       clear hHeld
       go_wp2_with fail
       go_meet
       case rel=>exact⟨_,_,rfl,rfl,HP9⟩
     ·go_simp
      obtain⟨v58,hv58⟩:=words.nm (v52.alloc (.cells #[.int .i64 0,.bool false,.int .i64 0,.int .i64 0,.int .i64 0,.slice none 0 0,.string ⟨#[]⟩] 85))
      rw [←hv58]
      have hQv58:=hQv52.alloc4 hv58
      clear hHeld hv58
      refine hK.out _ _ (hQv58.cells HX.out) (fun hHeld=>?_)
      clear hK
      refine wpAnyH_ready (rs:=[8]) (by kernel_rfl) (by simp) ?_
      refine AllReadyH.cons rfl (fun K hK=>?_) AllReadyH.nil
      go_simp
      go_at_call 27
      refine (hQv58.root HX.out).mono ?_
      rintro en v59 ⟨Aq,cq,rfl,hQv59⟩
      clear hHeld hQv58
      refine hK.out _ _ (hQv59.cells HX.out) (fun hHeld=>?_)
      clear hK
      refine wpAnyH_ready (rs:=[9]) (by kernel_rfl) (by simp) ?_
      refine AllReadyH.cons rfl (fun K hK=>?_) AllReadyH.nil
      go_simp
      go_at_call 26
      refine (hQv59.see2 HX.out _).mono ?_
      rintro en v60 ⟨Ag,cg,rfl,hQv60⟩
      unfold eC
      clear hHeld hQv59
      refine hK.out _ _ (hQv60.cells HX.out) (fun hHeld=>?_)
      clear hK
      have hz:v60.heap[v52.heap.size]?=some (.cells #[.int .i64 0,.bool false,.int .i64 0,.int .i64 0,.int .i64 0,.slice none 0 0,.string ⟨#[]⟩] 85 (0,0)):=(hQv60.b4 _ rfl).2
      have y0:=Jaa hz 0
      have z0:=Jab hz 0
      have y1:=Jaa hz 1
      have z1:=Jab hz 1
      have y2:=Jaa hz 2
      have z2:=Jab hz 2
      have y3:=Jaa hz 3
      have z3:=Jab hz 3
      have y4:=Jaa hz 4
      have z4:=Jab hz 4
      have y5:=Jaa hz 5
      have z5:=Jab hz 5
      have y6:=Jaa hz 6
      have z6:=Jab hz 6
      obtain⟨V8,hV8⟩:=words.nm (((((((v60.setCell ⟨v52.heap.size,0,none⟩ (.int .i64 0)).setCell ⟨v52.heap.size,1,none⟩ (.bool true)).setCell ⟨v52.heap.size,2,none⟩ (.int .i64 3)).setCell ⟨v52.heap.size,3,none⟩ (.int .i64 0)).setCell ⟨v52.heap.size,4,none⟩ (.int .i64 1)).setCell ⟨v52.heap.size,5,none⟩ (.slice Af 0 cf)).setCell ⟨v52.heap.size,6,none⟩ (.string ⟨#[47,98]⟩))
      obtain⟨hc8,hz5,hP⟩:=hQv60.put4 HX.out Af cf V8 hV8
      have HP:=Lib.hid hP
      have HC8:=Lib.hid hc8
      have HZ5:Hid (V8.heap[v1.heap.size]?=some (.cells #[.int .i64 0,.bool false,.int .i64 0,.int .i64 0,.int .i64 0,.slice none 0 0,.string ⟨#[]⟩] 85 (0,0))):=Lib.hid hz5
      clear hP hc8 hz5 hz hQv60
      refine wpAnyH_ready (rs:=[12]) (by kernel_rfl) (by simp) ?_
      refine AllReadyH.cons rfl (fun K hK=>?_) AllReadyH.nil
      go_simp
      rw [←hV8]
      clear hHeld hV8 y0 z0 y1 z1 y2 z2 y3 z3 y4 z4 y5 z5 y6 z6
      refine hK.out _ _ HC8.out (fun hHeld=>?_)
      clear hK
      have y0:=Jaa HZ5.out 0
      have z0:=Jab HZ5.out 0
      have y1:=Jaa HZ5.out 1
      have z1:=Jab HZ5.out 1
      have y2:=Jaa HZ5.out 2
      have z2:=Jab HZ5.out 2
      have y3:=Jaa HZ5.out 3
      have z3:=Jab HZ5.out 3
      have y4:=Jaa HZ5.out 4
      have z4:=Jab HZ5.out 4
      have y5:=Jaa HZ5.out 5
      have z5:=Jab HZ5.out 5
      have y6:=Jaa HZ5.out 6
      have z6:=Jab HZ5.out 6
      obtain⟨V9,hV9⟩:=words.nm (((((((V8.setCell ⟨v1.heap.size,0,none⟩ (.int .i64 0)).setCell ⟨v1.heap.size,1,none⟩ (.bool true)).setCell ⟨v1.heap.size,2,none⟩ (.int .i64 3)).setCell ⟨v1.heap.size,3,none⟩ (.int .i64 0)).setCell ⟨v1.heap.size,4,none⟩ (.int .i64 1)).setCell ⟨v1.heap.size,5,none⟩ (.slice Ag 0 cg)).setCell ⟨v1.heap.size,6,none⟩ (.string ⟨#[47,98]⟩))
      obtain⟨hc9,hp9⟩:=HP.out Ag cg V9 hV9
      have HC9:=Lib.hid hc9
      have HP9:=Lib.hid hp9
      clear hc9 hp9 HP
      refine wpAnyH_ready (rs:=[13]) (by kernel_rfl) (by simp) ?_
      refine AllReadyH.cons rfl (fun K hK=>?_) AllReadyH.nil
      go_simp
      rw [←hV9]
      clear hHeld hV9 y0 z0 y1 z1 y2 z2 y3 z3 y4 z4 y5 z5 y6 z6
      refine hK.out _ _ HC9.out (fun hHeld=>?_)
      clear hK
      refine wpAnyH_done (by kernel_rfl) ?_ _
      clear hHeld
      go_wp2_with fail
      go_meet
      case rel=>exact⟨_,_,rfl,rfl,HP9⟩
    ·go_simp
     obtain⟨v61,hv61⟩:=words.nm (v51.alloc (.cells #[.int .i64 0,.bool false,.int .i64 0,.int .i64 0,.int .i64 0,.slice none 0 0,.string ⟨#[]⟩] 85))
     rw [←hv61]
     have hQv61:=hQv51.alloc4 hv61
     clear hHeld hv61
     refine hK.out _ _ (hQv61.cells HX.out) (fun hHeld=>?_)
     clear hK
     refine wpAnyH_ready (rs:=[4]) (by kernel_rfl) (by simp) ?_
     refine AllReadyH.cons rfl (fun K hK=>?_) AllReadyH.nil
     go_simp
     go_at_call 26
     refine (hQv61.see1 HX.out _).mono ?_
     rintro en v62 ⟨Af,cf,rfl,hQv62⟩
     unfold eC
     clear hHeld hQv61
     refine hK.out _ _ (hQv62.cells HX.out) (fun hHeld=>?_)
     clear hK
     refine wpAnyH_ready (rs:=[8]) (by kernel_rfl) (by simp) ?_
     refine AllReadyH.cons rfl (fun K hK=>?_) AllReadyH.nil
     go_simp
     go_at_call 27
     refine (hQv62.root HX.out).mono ?_
     rintro en v63 ⟨Aq,cq,rfl,hQv63⟩
     clear hHeld hQv62
     refine hK.out _ _ (hQv63.cells HX.out) (fun hHeld=>?_)
     clear hK
     refine wpAnyH_ready (rs:=[9]) (by kernel_rfl) (by simp) ?_
     refine AllReadyH.cons rfl (fun K hK=>?_) AllReadyH.nil
     go_simp
     go_at_call 26
     refine (hQv63.see2 HX.out _).mono ?_
     rintro en v64 ⟨Ag,cg,rfl,hQv64⟩
     unfold eC
     clear hHeld hQv63
     refine hK.out _ _ (hQv64.cells HX.out) (fun hHeld=>?_)
     clear hK
     have hz:v64.heap[v51.heap.size]?=some (.cells #[.int .i64 0,.bool false,.int .i64 0,.int .i64 0,.int .i64 0,.slice none 0 0,.string ⟨#[]⟩] 85 (0,0)):=(hQv64.b4 _ rfl).2
     have y0:=Jaa hz 0
     have z0:=Jab hz 0
     have y1:=Jaa hz 1
     have z1:=Jab hz 1
     have y2:=Jaa hz 2
     have z2:=Jab hz 2
     have y3:=Jaa hz 3
     have z3:=Jab hz 3
     have y4:=Jaa hz 4
     have z4:=Jab hz 4
     have y5:=Jaa hz 5
     have z5:=Jab hz 5
     have y6:=Jaa hz 6
     have z6:=Jab hz 6
     obtain⟨V8,hV8⟩:=words.nm (((((((v64.setCell ⟨v51.heap.size,0,none⟩ (.int .i64 0)).setCell ⟨v51.heap.size,1,none⟩ (.bool true)).setCell ⟨v51.heap.size,2,none⟩ (.int .i64 3)).setCell ⟨v51.heap.size,3,none⟩ (.int .i64 0)).setCell ⟨v51.heap.size,4,none⟩ (.int .i64 1)).setCell ⟨v51.heap.size,5,none⟩ (.slice Af 0 cf)).setCell ⟨v51.heap.size,6,none⟩ (.string ⟨#[47,98]⟩))
     obtain⟨hc8,hz5,hP⟩:=hQv64.put4 HX.out Af cf V8 hV8
     have HP:=Lib.hid hP
     have HC8:=Lib.hid hc8
     have HZ5:Hid (V8.heap[v1.heap.size]?=some (.cells #[.int .i64 0,.bool false,.int .i64 0,.int .i64 0,.int .i64 0,.slice none 0 0,.string ⟨#[]⟩] 85 (0,0))):=Lib.hid hz5
     clear hP hc8 hz5 hz hQv64
     refine wpAnyH_ready (rs:=[12]) (by kernel_rfl) (by simp) ?_
     refine AllReadyH.cons rfl (fun K hK=>?_) AllReadyH.nil
     go_simp
     rw [←hV8]
     clear hHeld hV8 y0 z0 y1 z1 y2 z2 y3 z3 y4 z4 y5 z5 y6 z6
     refine hK.out _ _ HC8.out (fun hHeld=>?_)
     clear hK
     have y0:=Jaa HZ5.out 0
     have z0:=Jab HZ5.out 0
     have y1:=Jaa HZ5.out 1
     have z1:=Jab HZ5.out 1
     have y2:=Jaa HZ5.out 2
     have z2:=Jab HZ5.out 2
     have y3:=Jaa HZ5.out 3
     have z3:=Jab HZ5.out 3
     have y4:=Jaa HZ5.out 4
     have z4:=Jab HZ5.out 4
     have y5:=Jaa HZ5.out 5
     have z5:=Jab HZ5.out 5
     have y6:=Jaa HZ5.out 6
     have z6:=Jab HZ5.out 6
     obtain⟨V9,hV9⟩:=words.nm (((((((V8.setCell ⟨v1.heap.size,0,none⟩ (.int .i64 0)).setCell ⟨v1.heap.size,1,none⟩ (.bool true)).setCell ⟨v1.heap.size,2,none⟩ (.int .i64 3)).setCell ⟨v1.heap.size,3,none⟩ (.int .i64 0)).setCell ⟨v1.heap.size,4,none⟩ (.int .i64 1)).setCell ⟨v1.heap.size,5,none⟩ (.slice Ag 0 cg)).setCell ⟨v1.heap.size,6,none⟩ (.string ⟨#[47,98]⟩))
     obtain⟨hc9,hp9⟩:=HP.out Ag cg V9 hV9
     have HC9:=Lib.hid hc9
     have HP9:=Lib.hid hp9
     clear hc9 hp9 HP
     refine wpAnyH_ready (rs:=[13]) (by kernel_rfl) (by simp) ?_
     refine AllReadyH.cons rfl (fun K hK=>?_) AllReadyH.nil
     go_simp
     rw [←hV9]
     clear hHeld hV9 y0 z0 y1 z1 y2 z2 y3 z3 y4 z4 y5 z5 y6 z6
     refine hK.out _ _ HC9.out (fun hHeld=>?_)
     clear hK
     refine wpAnyH_done (by kernel_rfl) ?_ _
     clear hHeld
     go_wp2_with fail
     go_meet
     case rel=>exact⟨_,_,rfl,rfl,HP9⟩
  ·go_simp
   obtain⟨v65,hv65⟩:=words.nm (V0.alloc (.cells #[.int .i64 0,.bool false,.int .i64 0,.int .i64 0,.int .i64 0,.slice none 0 0,.string ⟨#[]⟩] 85))
   rw [←hv65]
   have hQv65:=hQV0.alloc4 hv65
   clear hHeld hv65
   refine hK.out _ _ (hQv65.cells HX.out) (fun hHeld=>?_)
   clear hK
   refine wpAnyH_ready (rs:=[3,11]) (by kernel_rfl) (by simp) ?_
   refine AllReadyH.cons rfl (fun K hK=>?_) (AllReadyH.cons rfl (fun K hK=>?_) AllReadyH.nil)
   ·go_simp
    go_at_call 27
    refine (hQv65.root HX.out).mono ?_
    rintro en v66 ⟨Ap,cp,rfl,hQv66⟩
    clear hHeld hQv65
    refine hK.out _ _ (hQv66.cells HX.out) (fun hHeld=>?_)
    clear hK
    refine wpAnyH_ready (rs:=[4,11]) (by kernel_rfl) (by simp) ?_
    refine AllReadyH.cons rfl (fun K hK=>?_) (AllReadyH.cons rfl (fun K hK=>?_) AllReadyH.nil)
    ·go_simp
     go_at_call 26
     refine (hQv66.see1 HX.out _).mono ?_
     rintro en v67 ⟨Af,cf,rfl,hQv67⟩
     unfold eC
     clear hHeld hQv66
     refine hK.out _ _ (hQv67.cells HX.out) (fun hHeld=>?_)
     clear hK
     refine wpAnyH_ready (rs:=[8,11]) (by kernel_rfl) (by simp) ?_
     refine AllReadyH.cons rfl (fun K hK=>?_) (AllReadyH.cons rfl (fun K hK=>?_) AllReadyH.nil)
     ·go_simp
      go_at_call 27
      refine (hQv67.root HX.out).mono ?_
      rintro en v68 ⟨Aq,cq,rfl,hQv68⟩
      clear hHeld hQv67
      refine hK.out _ _ (hQv68.cells HX.out) (fun hHeld=>?_)
      clear hK
      refine wpAnyH_ready (rs:=[9,11]) (by kernel_rfl) (by simp) ?_
      refine AllReadyH.cons rfl (fun K hK=>?_) (AllReadyH.cons rfl (fun K hK=>?_) AllReadyH.nil)
      ·go_simp
       go_at_call 26
       refine (hQv68.see2 HX.out _).mono ?_
       rintro en v69 ⟨Ag,cg,rfl,hQv69⟩
       unfold eC
       clear hHeld hQv68
       refine hK.out _ _ (hQv69.cells HX.out) (fun hHeld=>?_)
       clear hK
       refine wpAnyH_ready (rs:=[11]) (by kernel_rfl) (by simp) ?_
       refine AllReadyH.cons rfl (fun K hK=>?_) AllReadyH.nil
       go_simp
       obtain⟨v70,hv70⟩:=words.nm (v69.alloc (.cells #[.int .i64 0,.bool false,.int .i64 0,.int .i64 0,.int .i64 0,.slice none 0 0,.string ⟨#[]⟩] 85))
       rw [←hv70]
       have hQv70:=hQv69.alloc5 hv70
       clear hHeld hv70
       refine hK.out _ _ (hQv70.cells HX.out) (fun hHeld=>?_)
       clear hK
       have hz:v70.heap[V0.heap.size]?=some (.cells #[.int .i64 0,.bool false,.int .i64 0,.int .i64 0,.int .i64 0,.slice none 0 0,.string ⟨#[]⟩] 85 (0,0)):=(hQv70.b4 _ rfl).2
       have y0:=Jaa hz 0
       have z0:=Jab hz 0
       have y1:=Jaa hz 1
       have z1:=Jab hz 1
       have y2:=Jaa hz 2
       have z2:=Jab hz 2
       have y3:=Jaa hz 3
       have z3:=Jab hz 3
       have y4:=Jaa hz 4
       have z4:=Jab hz 4
       have y5:=Jaa hz 5
       have z5:=Jab hz 5
       have y6:=Jaa hz 6
       have z6:=Jab hz 6
       obtain⟨V8,hV8⟩:=words.nm (((((((v70.setCell ⟨V0.heap.size,0,none⟩ (.int .i64 0)).setCell ⟨V0.heap.size,1,none⟩ (.bool true)).setCell ⟨V0.heap.size,2,none⟩ (.int .i64 3)).setCell ⟨V0.heap.size,3,none⟩ (.int .i64 0)).setCell ⟨V0.heap.size,4,none⟩ (.int .i64 1)).setCell ⟨V0.heap.size,5,none⟩ (.slice Af 0 cf)).setCell ⟨V0.heap.size,6,none⟩ (.string ⟨#[47,98]⟩))
       obtain⟨hc8,hz5,hP⟩:=hQv70.put4 HX.out Af cf V8 hV8
       have HP:=Lib.hid hP
       have HC8:=Lib.hid hc8
       have HZ5:Hid (V8.heap[v69.heap.size]?=some (.cells #[.int .i64 0,.bool false,.int .i64 0,.int .i64 0,.int .i64 0,.slice none 0 0,.string ⟨#[]⟩] 85 (0,0))):=Lib.hid hz5
       clear hP hc8 hz5 hz hQv70
       refine wpAnyH_ready (rs:=[12]) (by kernel_rfl) (by simp) ?_
       refine AllReadyH.cons rfl (fun K hK=>?_) AllReadyH.nil
       go_simp
       rw [←hV8]
       clear hHeld hV8 y0 z0 y1 z1 y2 z2 y3 z3 y4 z4 y5 z5 y6 z6
       refine hK.out _ _ HC8.out (fun hHeld=>?_)
       clear hK
       have y0:=Jaa HZ5.out 0
       have z0:=Jab HZ5.out 0
       have y1:=Jaa HZ5.out 1
       have z1:=Jab HZ5.out 1
       have y2:=Jaa HZ5.out 2
       have z2:=Jab HZ5.out 2
       have y3:=Jaa HZ5.out 3
       have z3:=Jab HZ5.out 3
       have y4:=Jaa HZ5.out 4
       have z4:=Jab HZ5.out 4
       have y5:=Jaa HZ5.out 5
       have z5:=Jab HZ5.out 5
       have y6:=Jaa HZ5.out 6
       have z6:=Jab HZ5.out 6
       obtain⟨V9,hV9⟩:=words.nm (((((((V8.setCell ⟨v69.heap.size,0,none⟩ (.int .i64 0)).setCell ⟨v69.heap.size,1,none⟩ (.bool true)).setCell ⟨v69.heap.size,2,none⟩ (.int .i64 3)).setCell ⟨v69.heap.size,3,none⟩ (.int .i64 0)).setCell ⟨v69.heap.size,4,none⟩ (.int .i64 1)).setCell ⟨v69.heap.size,5,none⟩ (.slice Ag 0 cg)).setCell ⟨v69.heap.size,6,none⟩ (.string ⟨#[47,98]⟩))
       obtain⟨hc9,hp9⟩:=HP.out Ag cg V9 hV9
       have HC9:=Lib.hid hc9
       have HP9:=Lib.hid hp9
       clear hc9 hp9 HP
       refine wpAnyH_ready (rs:=[13]) (by kernel_rfl) (by simp) ?_
       refine AllReadyH.cons rfl (fun K hK=>?_) AllReadyH.nil
       go_simp
       rw [←hV9]
       clear hHeld hV9 y0 z0 y1 z1 y2 z2 y3 z3 y4 z4 y5 z5 y6 z6
       refine hK.out _ _ HC9.out (fun hHeld=>?_)
       clear hK
       refine wpAnyH_done (by kernel_rfl) ?_ _
       clear hHeld
       go_wp2_with fail
       go_meet
       case rel=>exact⟨_,_,rfl,rfl,HP9⟩
      ·go_simp
       obtain⟨v71,hv71⟩:=words.nm (v68.alloc (.cells #[.int .i64 0,.bool false,.int .i64 0,.int .i64 0,.int .i64 0,.slice none 0 0,.string ⟨#[]⟩] 85))
       rw [←hv71]
       have hQv71:=hQv68.alloc5 hv71
       clear hHeld hv71
       refine hK.out _ _ (hQv71.cells HX.out) (fun hHeld=>?_)
       clear hK
       refine wpAnyH_ready (rs:=[9]) (by kernel_rfl) (by simp) ?_
       refine AllReadyH.cons rfl (fun K hK=>?_) AllReadyH.nil
       go_simp
       go_at_call 26
       refine (hQv71.see2 HX.out _).mono ?_
       rintro en v72 ⟨Ag,cg,rfl,hQv72⟩
       unfold eC
       clear hHeld hQv71
       refine hK.out _ _ (hQv72.cells HX.out) (fun hHeld=>?_)
       clear hK
       have hz:v72.heap[V0.heap.size]?=some (.cells #[.int .i64 0,.bool false,.int .i64 0,.int .i64 0,.int .i64 0,.slice none 0 0,.string ⟨#[]⟩] 85 (0,0)):=(hQv72.b4 _ rfl).2
       have y0:=Jaa hz 0
       have z0:=Jab hz 0
       have y1:=Jaa hz 1
       have z1:=Jab hz 1
       have y2:=Jaa hz 2
       have z2:=Jab hz 2
       have y3:=Jaa hz 3
       have z3:=Jab hz 3
       have y4:=Jaa hz 4
       have z4:=Jab hz 4
       have y5:=Jaa hz 5
       have z5:=Jab hz 5
       have y6:=Jaa hz 6
       have z6:=Jab hz 6
       obtain⟨V8,hV8⟩:=words.nm (((((((v72.setCell ⟨V0.heap.size,0,none⟩ (.int .i64 0)).setCell ⟨V0.heap.size,1,none⟩ (.bool true)).setCell ⟨V0.heap.size,2,none⟩ (.int .i64 3)).setCell ⟨V0.heap.size,3,none⟩ (.int .i64 0)).setCell ⟨V0.heap.size,4,none⟩ (.int .i64 1)).setCell ⟨V0.heap.size,5,none⟩ (.slice Af 0 cf)).setCell ⟨V0.heap.size,6,none⟩ (.string ⟨#[47,98]⟩))
       obtain⟨hc8,hz5,hP⟩:=hQv72.put4 HX.out Af cf V8 hV8
       have HP:=Lib.hid hP
       have HC8:=Lib.hid hc8
       have HZ5:Hid (V8.heap[v68.heap.size]?=some (.cells #[.int .i64 0,.bool false,.int .i64 0,.int .i64 0,.int .i64 0,.slice none 0 0,.string ⟨#[]⟩] 85 (0,0))):=Lib.hid hz5
       clear hP hc8 hz5 hz hQv72
       refine wpAnyH_ready (rs:=[12]) (by kernel_rfl) (by simp) ?_
       refine AllReadyH.cons rfl (fun K hK=>?_) AllReadyH.nil
       go_simp
       rw [←hV8]
       clear hHeld hV8 y0 z0 y1 z1 y2 z2 y3 z3 y4 z4 y5 z5 y6 z6
       refine hK.out _ _ HC8.out (fun hHeld=>?_)
       clear hK
       have y0:=Jaa HZ5.out 0
       have z0:=Jab HZ5.out 0
       have y1:=Jaa HZ5.out 1
       have z1:=Jab HZ5.out 1
       have y2:=Jaa HZ5.out 2
       have z2:=Jab HZ5.out 2
       have y3:=Jaa HZ5.out 3
       have z3:=Jab HZ5.out 3
       have y4:=Jaa HZ5.out 4
       have z4:=Jab HZ5.out 4
       have y5:=Jaa HZ5.out 5
       have z5:=Jab HZ5.out 5
       have y6:=Jaa HZ5.out 6
       have z6:=Jab HZ5.out 6
       obtain⟨V9,hV9⟩:=words.nm (((((((V8.setCell ⟨v68.heap.size,0,none⟩ (.int .i64 0)).setCell ⟨v68.heap.size,1,none⟩ (.bool true)).setCell ⟨v68.heap.size,2,none⟩ (.int .i64 3)).setCell ⟨v68.heap.size,3,none⟩ (.int .i64 0)).setCell ⟨v68.heap.size,4,none⟩ (.int .i64 1)).setCell ⟨v68.heap.size,5,none⟩ (.slice Ag 0 cg)).setCell ⟨v68.heap.size,6,none⟩ (.string ⟨#[47,98]⟩))
       obtain⟨hc9,hp9⟩:=HP.out Ag cg V9 hV9
       have HC9:=Lib.hid hc9
       have HP9:=Lib.hid hp9
       clear hc9 hp9 HP
       refine wpAnyH_ready (rs:=[13]) (by kernel_rfl) (by simp) ?_
       refine AllReadyH.cons rfl (fun K hK=>?_) AllReadyH.nil
       go_simp
       rw [←hV9]
       clear hHeld hV9 y0 z0 y1 z1 y2 z2 y3 z3 y4 z4 y5 z5 y6 z6
       refine hK.out _ _ HC9.out (fun hHeld=>?_)
       clear hK
       refine wpAnyH_done (by kernel_rfl) ?_ _
       clear hHeld
       go_wp2_with fail
       go_meet
       case rel=>exact⟨_,_,rfl,rfl,HP9⟩
     ·go_simp
      obtain⟨v73,hv73⟩:=words.nm (v67.alloc (.cells #[.int .i64 0,.bool false,.int .i64 0,.int .i64 0,.int .i64 0,.slice none 0 0,.string ⟨#[]⟩] 85))
      rw [←hv73]
      have hQv73:=hQv67.alloc5 hv73
      clear hHeld hv73
      refine hK.out _ _ (hQv73.cells HX.out) (fun hHeld=>?_)
      clear hK
      refine wpAnyH_ready (rs:=[8]) (by kernel_rfl) (by simp) ?_
      refine AllReadyH.cons rfl (fun K hK=>?_) AllReadyH.nil
      go_simp
      go_at_call 27
      refine (hQv73.root HX.out).mono ?_
      rintro en v74 ⟨Aq,cq,rfl,hQv74⟩
      clear hHeld hQv73
      refine hK.out _ _ (hQv74.cells HX.out) (fun hHeld=>?_)
      clear hK
      refine wpAnyH_ready (rs:=[9]) (by kernel_rfl) (by simp) ?_
      refine AllReadyH.cons rfl (fun K hK=>?_) AllReadyH.nil
      go_simp
      go_at_call 26
      refine (hQv74.see2 HX.out _).mono ?_
      rintro en v75 ⟨Ag,cg,rfl,hQv75⟩
      unfold eC
      clear hHeld hQv74
      refine hK.out _ _ (hQv75.cells HX.out) (fun hHeld=>?_)
      clear hK
      have hz:v75.heap[V0.heap.size]?=some (.cells #[.int .i64 0,.bool false,.int .i64 0,.int .i64 0,.int .i64 0,.slice none 0 0,.string ⟨#[]⟩] 85 (0,0)):=(hQv75.b4 _ rfl).2
      have y0:=Jaa hz 0
      have z0:=Jab hz 0
      have y1:=Jaa hz 1
      have z1:=Jab hz 1
      have y2:=Jaa hz 2
      have z2:=Jab hz 2
      have y3:=Jaa hz 3
      have z3:=Jab hz 3
      have y4:=Jaa hz 4
      have z4:=Jab hz 4
      have y5:=Jaa hz 5
      have z5:=Jab hz 5
      have y6:=Jaa hz 6
      have z6:=Jab hz 6
      obtain⟨V8,hV8⟩:=words.nm (((((((v75.setCell ⟨V0.heap.size,0,none⟩ (.int .i64 0)).setCell ⟨V0.heap.size,1,none⟩ (.bool true)).setCell ⟨V0.heap.size,2,none⟩ (.int .i64 3)).setCell ⟨V0.heap.size,3,none⟩ (.int .i64 0)).setCell ⟨V0.heap.size,4,none⟩ (.int .i64 1)).setCell ⟨V0.heap.size,5,none⟩ (.slice Af 0 cf)).setCell ⟨V0.heap.size,6,none⟩ (.string ⟨#[47,98]⟩))
      obtain⟨hc8,hz5,hP⟩:=hQv75.put4 HX.out Af cf V8 hV8
      have HP:=Lib.hid hP
      have HC8:=Lib.hid hc8
      have HZ5:Hid (V8.heap[v67.heap.size]?=some (.cells #[.int .i64 0,.bool false,.int .i64 0,.int .i64 0,.int .i64 0,.slice none 0 0,.string ⟨#[]⟩] 85 (0,0))):=Lib.hid hz5
      clear hP hc8 hz5 hz hQv75
      refine wpAnyH_ready (rs:=[12]) (by kernel_rfl) (by simp) ?_
      refine AllReadyH.cons rfl (fun K hK=>?_) AllReadyH.nil
      go_simp
      rw [←hV8]
      clear hHeld hV8 y0 z0 y1 z1 y2 z2 y3 z3 y4 z4 y5 z5 y6 z6
      refine hK.out _ _ HC8.out (fun hHeld=>?_)
      clear hK
      have y0:=Jaa HZ5.out 0
      have z0:=Jab HZ5.out 0
      have y1:=Jaa HZ5.out 1
      have z1:=Jab HZ5.out 1
      have y2:=Jaa HZ5.out 2
      have z2:=Jab HZ5.out 2
      have y3:=Jaa HZ5.out 3
      have z3:=Jab HZ5.out 3
      have y4:=Jaa HZ5.out 4
      have z4:=Jab HZ5.out 4
      have y5:=Jaa HZ5.out 5
      have z5:=Jab HZ5.out 5
      have y6:=Jaa HZ5.out 6
      have z6:=Jab HZ5.out 6
      obtain⟨V9,hV9⟩:=words.nm (((((((V8.setCell ⟨v67.heap.size,0,none⟩ (.int .i64 0)).setCell ⟨v67.heap.size,1,none⟩ (.bool true)).setCell ⟨v67.heap.size,2,none⟩ (.int .i64 3)).setCell ⟨v67.heap.size,3,none⟩ (.int .i64 0)).setCell ⟨v67.heap.size,4,none⟩ (.int .i64 1)).setCell ⟨v67.heap.size,5,none⟩ (.slice Ag 0 cg)).setCell ⟨v67.heap.size,6,none⟩ (.string ⟨#[47,98]⟩))
      obtain⟨hc9,hp9⟩:=HP.out Ag cg V9 hV9
      have HC9:=Lib.hid hc9
      have HP9:=Lib.hid hp9
      clear hc9 hp9 HP
      refine wpAnyH_ready (rs:=[13]) (by kernel_rfl) (by simp) ?_
      refine AllReadyH.cons rfl (fun K hK=>?_) AllReadyH.nil
      go_simp
      rw [←hV9]
      clear hHeld hV9 y0 z0 y1 z1 y2 z2 y3 z3 y4 z4 y5 z5 y6 z6
      refine hK.out _ _ HC9.out (fun hHeld=>?_)
      clear hK
      refine wpAnyH_done (by kernel_rfl) ?_ _
      clear hHeld
      go_wp2_with fail
      go_meet
      case rel=>exact⟨_,_,rfl,rfl,HP9⟩
    ·go_simp
     obtain⟨v76,hv76⟩:=words.nm (v66.alloc (.cells #[.int .i64 0,.bool false,.int .i64 0,.int .i64 0,.int .i64 0,.slice none 0 0,.string ⟨#[]⟩] 85))
     rw [←hv76]
     have hQv76:=hQv66.alloc5 hv76
     clear hHeld hv76
     refine hK.out _ _ (hQv76.cells HX.out) (fun hHeld=>?_)
     clear hK
     refine wpAnyH_ready (rs:=[4]) (by kernel_rfl) (by simp) ?_
     refine AllReadyH.cons rfl (fun K hK=>?_) AllReadyH.nil
     go_simp
     go_at_call 26
     refine (hQv76.see1 HX.out _).mono ?_
     rintro en v77 ⟨Af,cf,rfl,hQv77⟩
     unfold eC
     clear hHeld hQv76
     refine hK.out _ _ (hQv77.cells HX.out) (fun hHeld=>?_)
     clear hK
     refine wpAnyH_ready (rs:=[8]) (by kernel_rfl) (by simp) ?_
     refine AllReadyH.cons rfl (fun K hK=>?_) AllReadyH.nil
     go_simp
     go_at_call 27
     refine (hQv77.root HX.out).mono ?_
     rintro en v78 ⟨Aq,cq,rfl,hQv78⟩
     clear hHeld hQv77
     refine hK.out _ _ (hQv78.cells HX.out) (fun hHeld=>?_)
     clear hK
     refine wpAnyH_ready (rs:=[9]) (by kernel_rfl) (by simp) ?_
     refine AllReadyH.cons rfl (fun K hK=>?_) AllReadyH.nil
     go_simp
     go_at_call 26
     refine (hQv78.see2 HX.out _).mono ?_
     rintro en v79 ⟨Ag,cg,rfl,hQv79⟩
     unfold eC
     clear hHeld hQv78
     refine hK.out _ _ (hQv79.cells HX.out) (fun hHeld=>?_)
     clear hK
     have hz:v79.heap[V0.heap.size]?=some (.cells #[.int .i64 0,.bool false,.int .i64 0,.int .i64 0,.int .i64 0,.slice none 0 0,.string ⟨#[]⟩] 85 (0,0)):=(hQv79.b4 _ rfl).2
     have y0:=Jaa hz 0
     have z0:=Jab hz 0
     have y1:=Jaa hz 1
     have z1:=Jab hz 1
     have y2:=Jaa hz 2
     have z2:=Jab hz 2
     have y3:=Jaa hz 3
     have z3:=Jab hz 3
     have y4:=Jaa hz 4
     have z4:=Jab hz 4
     have y5:=Jaa hz 5
     have z5:=Jab hz 5
     have y6:=Jaa hz 6
     have z6:=Jab hz 6
     obtain⟨V8,hV8⟩:=words.nm (((((((v79.setCell ⟨V0.heap.size,0,none⟩ (.int .i64 0)).setCell ⟨V0.heap.size,1,none⟩ (.bool true)).setCell ⟨V0.heap.size,2,none⟩ (.int .i64 3)).setCell ⟨V0.heap.size,3,none⟩ (.int .i64 0)).setCell ⟨V0.heap.size,4,none⟩ (.int .i64 1)).setCell ⟨V0.heap.size,5,none⟩ (.slice Af 0 cf)).setCell ⟨V0.heap.size,6,none⟩ (.string ⟨#[47,98]⟩))
     obtain⟨hc8,hz5,hP⟩:=hQv79.put4 HX.out Af cf V8 hV8
     have HP:=Lib.hid hP
     have HC8:=Lib.hid hc8
     have HZ5:Hid (V8.heap[v66.heap.size]?=some (.cells #[.int .i64 0,.bool false,.int .i64 0,.int .i64 0,.int .i64 0,.slice none 0 0,.string ⟨#[]⟩] 85 (0,0))):=Lib.hid hz5
     clear hP hc8 hz5 hz hQv79
     refine wpAnyH_ready (rs:=[12]) (by kernel_rfl) (by simp) ?_
     refine AllReadyH.cons rfl (fun K hK=>?_) AllReadyH.nil
     go_simp
     rw [←hV8]
     clear hHeld hV8 y0 z0 y1 z1 y2 z2 y3 z3 y4 z4 y5 z5 y6 z6
     refine hK.out _ _ HC8.out (fun hHeld=>?_)
     clear hK
     have y0:=Jaa HZ5.out 0
     have z0:=Jab HZ5.out 0
     have y1:=Jaa HZ5.out 1
     have z1:=Jab HZ5.out 1
     have y2:=Jaa HZ5.out 2
     have z2:=Jab HZ5.out 2
     have y3:=Jaa HZ5.out 3
     have z3:=Jab HZ5.out 3
     have y4:=Jaa HZ5.out 4
     have z4:=Jab HZ5.out 4
     have y5:=Jaa HZ5.out 5
     have z5:=Jab HZ5.out 5
     have y6:=Jaa HZ5.out 6
     have z6:=Jab HZ5.out 6
     obtain⟨V9,hV9⟩:=words.nm (((((((V8.setCell ⟨v66.heap.size,0,none⟩ (.int .i64 0)).setCell ⟨v66.heap.size,1,none⟩ (.bool true)).setCell ⟨v66.heap.size,2,none⟩ (.int .i64 3)).setCell ⟨v66.heap.size,3,none⟩ (.int .i64 0)).setCell ⟨v66.heap.size,4,none⟩ (.int .i64 1)).setCell ⟨v66.heap.size,5,none⟩ (.slice Ag 0 cg)).setCell ⟨v66.heap.size,6,none⟩ (.string ⟨#[47,98]⟩))
     obtain⟨hc9,hp9⟩:=HP.out Ag cg V9 hV9
     have HC9:=Lib.hid hc9
     have HP9:=Lib.hid hp9
     clear hc9 hp9 HP
     refine wpAnyH_ready (rs:=[13]) (by kernel_rfl) (by simp) ?_
     refine AllReadyH.cons rfl (fun K hK=>?_) AllReadyH.nil
     go_simp
     rw [←hV9]
     clear hHeld hV9 y0 z0 y1 z1 y2 z2 y3 z3 y4 z4 y5 z5 y6 z6
     refine hK.out _ _ HC9.out (fun hHeld=>?_)
     clear hK
     refine wpAnyH_done (by kernel_rfl) ?_ _
     clear hHeld
     go_wp2_with fail
     go_meet
     case rel=>exact⟨_,_,rfl,rfl,HP9⟩
   ·go_simp
    obtain⟨v80,hv80⟩:=words.nm (v65.alloc (.cells #[.int .i64 0,.bool false,.int .i64 0,.int .i64 0,.int .i64 0,.slice none 0 0,.string ⟨#[]⟩] 85))
    rw [←hv80]
    have hQv80:=hQv65.alloc5 hv80
    clear hHeld hv80
    refine hK.out _ _ (hQv80.cells HX.out) (fun hHeld=>?_)
    clear hK
    refine wpAnyH_ready (rs:=[3]) (by kernel_rfl) (by simp) ?_
    refine AllReadyH.cons rfl (fun K hK=>?_) AllReadyH.nil
    go_simp
    go_at_call 27
    refine (hQv80.root HX.out).mono ?_
    rintro en v81 ⟨Ap,cp,rfl,hQv81⟩
    clear hHeld hQv80
    refine hK.out _ _ (hQv81.cells HX.out) (fun hHeld=>?_)
    clear hK
    refine wpAnyH_ready (rs:=[4]) (by kernel_rfl) (by simp) ?_
    refine AllReadyH.cons rfl (fun K hK=>?_) AllReadyH.nil
    go_simp
    go_at_call 26
    refine (hQv81.see1 HX.out _).mono ?_
    rintro en v82 ⟨Af,cf,rfl,hQv82⟩
    unfold eC
    clear hHeld hQv81
    refine hK.out _ _ (hQv82.cells HX.out) (fun hHeld=>?_)
    clear hK
    refine wpAnyH_ready (rs:=[8]) (by kernel_rfl) (by simp) ?_
    refine AllReadyH.cons rfl (fun K hK=>?_) AllReadyH.nil
    go_simp
    go_at_call 27
    refine (hQv82.root HX.out).mono ?_
    rintro en v83 ⟨Aq,cq,rfl,hQv83⟩
    clear hHeld hQv82
    refine hK.out _ _ (hQv83.cells HX.out) (fun hHeld=>?_)
    clear hK
    refine wpAnyH_ready (rs:=[9]) (by kernel_rfl) (by simp) ?_
    refine AllReadyH.cons rfl (fun K hK=>?_) AllReadyH.nil
    go_simp
    go_at_call 26
    refine (hQv83.see2 HX.out _).mono ?_
    rintro en v84 ⟨Ag,cg,rfl,hQv84⟩
    unfold eC
    clear hHeld hQv83
    refine hK.out _ _ (hQv84.cells HX.out) (fun hHeld=>?_)
    clear hK
    have hz:v84.heap[V0.heap.size]?=some (.cells #[.int .i64 0,.bool false,.int .i64 0,.int .i64 0,.int .i64 0,.slice none 0 0,.string ⟨#[]⟩] 85 (0,0)):=(hQv84.b4 _ rfl).2
    have y0:=Jaa hz 0
    have z0:=Jab hz 0
    have y1:=Jaa hz 1
    have z1:=Jab hz 1
    have y2:=Jaa hz 2
    have z2:=Jab hz 2
    have y3:=Jaa hz 3
    have z3:=Jab hz 3
    have y4:=Jaa hz 4
    have z4:=Jab hz 4
    have y5:=Jaa hz 5
    have z5:=Jab hz 5
    have y6:=Jaa hz 6
    have z6:=Jab hz 6
    obtain⟨V8,hV8⟩:=words.nm (((((((v84.setCell ⟨V0.heap.size,0,none⟩ (.int .i64 0)).setCell ⟨V0.heap.size,1,none⟩ (.bool true)).setCell ⟨V0.heap.size,2,none⟩ (.int .i64 3)).setCell ⟨V0.heap.size,3,none⟩ (.int .i64 0)).setCell ⟨V0.heap.size,4,none⟩ (.int .i64 1)).setCell ⟨V0.heap.size,5,none⟩ (.slice Af 0 cf)).setCell ⟨V0.heap.size,6,none⟩ (.string ⟨#[47,98]⟩))
    obtain⟨hc8,hz5,hP⟩:=hQv84.put4 HX.out Af cf V8 hV8
    have HP:=Lib.hid hP
    have HC8:=Lib.hid hc8
    have HZ5:Hid (V8.heap[v65.heap.size]?=some (.cells #[.int .i64 0,.bool false,.int .i64 0,.int .i64 0,.int .i64 0,.slice none 0 0,.string ⟨#[]⟩] 85 (0,0))):=Lib.hid hz5
    clear hP hc8 hz5 hz hQv84
    refine wpAnyH_ready (rs:=[12]) (by kernel_rfl) (by simp) ?_
    refine AllReadyH.cons rfl (fun K hK=>?_) AllReadyH.nil
    go_simp
    rw [←hV8]
    clear hHeld hV8 y0 z0 y1 z1 y2 z2 y3 z3 y4 z4 y5 z5 y6 z6
    refine hK.out _ _ HC8.out (fun hHeld=>?_)
    clear hK
    have y0:=Jaa HZ5.out 0
    have z0:=Jab HZ5.out 0
    have y1:=Jaa HZ5.out 1
    have z1:=Jab HZ5.out 1
    have y2:=Jaa HZ5.out 2
    have z2:=Jab HZ5.out 2
    have y3:=Jaa HZ5.out 3
    have z3:=Jab HZ5.out 3
    have y4:=Jaa HZ5.out 4
    have z4:=Jab HZ5.out 4
    have y5:=Jaa HZ5.out 5
    have z5:=Jab HZ5.out 5
    have y6:=Jaa HZ5.out 6
    have z6:=Jab HZ5.out 6
    obtain⟨V9,hV9⟩:=words.nm (((((((V8.setCell ⟨v65.heap.size,0,none⟩ (.int .i64 0)).setCell ⟨v65.heap.size,1,none⟩ (.bool true)).setCell ⟨v65.heap.size,2,none⟩ (.int .i64 3)).setCell ⟨v65.heap.size,3,none⟩ (.int .i64 0)).setCell ⟨v65.heap.size,4,none⟩ (.int .i64 1)).setCell ⟨v65.heap.size,5,none⟩ (.slice Ag 0 cg)).setCell ⟨v65.heap.size,6,none⟩ (.string ⟨#[47,98]⟩))
    obtain⟨hc9,hp9⟩:=HP.out Ag cg V9 hV9
    have HC9:=Lib.hid hc9
    have HP9:=Lib.hid hp9
    clear hc9 hp9 HP
    refine wpAnyH_ready (rs:=[13]) (by kernel_rfl) (by simp) ?_
    refine AllReadyH.cons rfl (fun K hK=>?_) AllReadyH.nil
    go_simp
    rw [←hV9]
    clear hHeld hV9 y0 z0 y1 z1 y2 z2 y3 z3 y4 z4 y5 z5 y6 z6
    refine hK.out _ _ HC9.out (fun hHeld=>?_)
    clear hK
    refine wpAnyH_done (by kernel_rfl) ?_ _
    clear hHeld
    go_wp2_with fail
    go_meet
    case rel=>exact⟨_,_,rfl,rfl,HP9⟩
  ·go_simp
   obtain⟨v85,hv85⟩:=words.nm (V0.alloc (.cells #[.int .i64 0,.bool false,.int .i64 0,.int .i64 0,.int .i64 0,.slice none 0 0,.string ⟨#[]⟩] 85))
   rw [←hv85]
   have hQv85:=hQV0.alloc5 hv85
   clear hHeld hv85
   refine hK.out _ _ (hQv85.cells HX.out) (fun hHeld=>?_)
   clear hK
   refine wpAnyH_ready (rs:=[3,10]) (by kernel_rfl) (by simp) ?_
   refine AllReadyH.cons rfl (fun K hK=>?_) (AllReadyH.cons rfl (fun K hK=>?_) AllReadyH.nil)
   ·go_simp
    go_at_call 27
    refine (hQv85.root HX.out).mono ?_
    rintro en v86 ⟨Ap,cp,rfl,hQv86⟩
    clear hHeld hQv85
    refine hK.out _ _ (hQv86.cells HX.out) (fun hHeld=>?_)
    clear hK
    refine wpAnyH_ready (rs:=[4,10]) (by kernel_rfl) (by simp) ?_
    refine AllReadyH.cons rfl (fun K hK=>?_) (AllReadyH.cons rfl (fun K hK=>?_) AllReadyH.nil)
    ·go_simp
     go_at_call 26
     refine (hQv86.see1 HX.out _).mono ?_
     rintro en v87 ⟨Af,cf,rfl,hQv87⟩
     unfold eC
     clear hHeld hQv86
     refine hK.out _ _ (hQv87.cells HX.out) (fun hHeld=>?_)
     clear hK
     refine wpAnyH_ready (rs:=[8,10]) (by kernel_rfl) (by simp) ?_
     refine AllReadyH.cons rfl (fun K hK=>?_) (AllReadyH.cons rfl (fun K hK=>?_) AllReadyH.nil)
     ·go_simp
      go_at_call 27
      refine (hQv87.root HX.out).mono ?_
      rintro en v88 ⟨Aq,cq,rfl,hQv88⟩
      clear hHeld hQv87
      refine hK.out _ _ (hQv88.cells HX.out) (fun hHeld=>?_)
      clear hK
      refine wpAnyH_ready (rs:=[9,10]) (by kernel_rfl) (by simp) ?_
      refine AllReadyH.cons rfl (fun K hK=>?_) (AllReadyH.cons rfl (fun K hK=>?_) AllReadyH.nil)
      ·go_simp
       go_at_call 26
       refine (hQv88.see2 HX.out _).mono ?_
       rintro en v89 ⟨Ag,cg,rfl,hQv89⟩
       unfold eC
       clear hHeld hQv88
       refine hK.out _ _ (hQv89.cells HX.out) (fun hHeld=>?_)
       clear hK
       refine wpAnyH_ready (rs:=[10]) (by kernel_rfl) (by simp) ?_
       refine AllReadyH.cons rfl (fun K hK=>?_) AllReadyH.nil
       go_simp
       obtain⟨v90,hv90⟩:=words.nm (v89.alloc (.cells #[.int .i64 0,.bool false,.int .i64 0,.int .i64 0,.int .i64 0,.slice none 0 0,.string ⟨#[]⟩] 85))
       rw [←hv90]
       have hQv90:=hQv89.alloc4 hv90
       clear hHeld hv90
       refine hK.out _ _ (hQv90.cells HX.out) (fun hHeld=>?_)
       clear hK
       have hz:v90.heap[v89.heap.size]?=some (.cells #[.int .i64 0,.bool false,.int .i64 0,.int .i64 0,.int .i64 0,.slice none 0 0,.string ⟨#[]⟩] 85 (0,0)):=(hQv90.b4 _ rfl).2
       have y0:=Jaa hz 0
       have z0:=Jab hz 0
       have y1:=Jaa hz 1
       have z1:=Jab hz 1
       have y2:=Jaa hz 2
       have z2:=Jab hz 2
       have y3:=Jaa hz 3
       have z3:=Jab hz 3
       have y4:=Jaa hz 4
       have z4:=Jab hz 4
       have y5:=Jaa hz 5
       have z5:=Jab hz 5
       have y6:=Jaa hz 6
       have z6:=Jab hz 6
       obtain⟨V8,hV8⟩:=words.nm (((((((v90.setCell ⟨v89.heap.size,0,none⟩ (.int .i64 0)).setCell ⟨v89.heap.size,1,none⟩ (.bool true)).setCell ⟨v89.heap.size,2,none⟩ (.int .i64 3)).setCell ⟨v89.heap.size,3,none⟩ (.int .i64 0)).setCell ⟨v89.heap.size,4,none⟩ (.int .i64 1)).setCell ⟨v89.heap.size,5,none⟩ (.slice Af 0 cf)).setCell ⟨v89.heap.size,6,none⟩ (.string ⟨#[47,98]⟩))
       obtain⟨hc8,hz5,hP⟩:=hQv90.put4 HX.out Af cf V8 hV8
       have HP:=Lib.hid hP
       have HC8:=Lib.hid hc8
       have HZ5:Hid (V8.heap[V0.heap.size]?=some (.cells #[.int .i64 0,.bool false,.int .i64 0,.int .i64 0,.int .i64 0,.slice none 0 0,.string ⟨#[]⟩] 85 (0,0))):=Lib.hid hz5
       clear hP hc8 hz5 hz hQv90
       refine wpAnyH_ready (rs:=[12]) (by kernel_rfl) (by simp) ?_
       refine AllReadyH.cons rfl (fun K hK=>?_) AllReadyH.nil
       go_simp
       rw [←hV8]
       clear hHeld hV8 y0 z0 y1 z1 y2 z2 y3 z3 y4 z4 y5 z5 y6 z6
       refine hK.out _ _ HC8.out (fun hHeld=>?_)
       clear hK
       have y0:=Jaa HZ5.out 0
       have z0:=Jab HZ5.out 0
       have y1:=Jaa HZ5.out 1
       have z1:=Jab HZ5.out 1
       have y2:=Jaa HZ5.out 2
       have z2:=Jab HZ5.out 2
       have y3:=Jaa HZ5.out 3
       have z3:=Jab HZ5.out 3
       have y4:=Jaa HZ5.out 4
       have z4:=Jab HZ5.out 4
       have y5:=Jaa HZ5.out 5
       have z5:=Jab HZ5.out 5
       have y6:=Jaa HZ5.out 6
       have z6:=Jab HZ5.out 6
       obtain⟨V9,hV9⟩:=words.nm (((((((V8.setCell ⟨V0.heap.size,0,none⟩ (.int .i64 0)).setCell ⟨V0.heap.size,1,none⟩ (.bool true)).setCell ⟨V0.heap.size,2,none⟩ (.int .i64 3)).setCell ⟨V0.heap.size,3,none⟩ (.int .i64 0)).setCell ⟨V0.heap.size,4,none⟩ (.int .i64 1)).setCell ⟨V0.heap.size,5,none⟩ (.slice Ag 0 cg)).setCell ⟨V0.heap.size,6,none⟩ (.string ⟨#[47,98]⟩))
       obtain⟨hc9,hp9⟩:=HP.out Ag cg V9 hV9
       have HC9:=Lib.hid hc9
       have HP9:=Lib.hid hp9
       clear hc9 hp9 HP
       refine wpAnyH_ready (rs:=[13]) (by kernel_rfl) (by simp) ?_
       refine AllReadyH.cons rfl (fun K hK=>?_) AllReadyH.nil
       go_simp
       rw [←hV9]
       clear hHeld hV9 y0 z0 y1 z1 y2 z2 y3 z3 y4 z4 y5 z5 y6 z6
       refine hK.out _ _ HC9.out (fun hHeld=>?_)
       clear hK
       refine wpAnyH_done (by kernel_rfl) ?_ _
       clear hHeld
       go_wp2_with fail
       go_meet
       case rel=>exact⟨_,_,rfl,rfl,HP9⟩
      ·go_simp
       obtain⟨v91,hv91⟩:=words.nm (v88.alloc (.cells #[.int .i64 0,.bool false,.int .i64 0,.int .i64 0,.int .i64 0,.slice none 0 0,.string ⟨#[]⟩] 85))
       rw [←hv91]
       have hQv91:=hQv88.alloc4 hv91
       clear hHeld hv91
       refine hK.out _ _ (hQv91.cells HX.out) (fun hHeld=>?_)
       clear hK
       refine wpAnyH_ready (rs:=[9]) (by kernel_rfl) (by simp) ?_
       refine AllReadyH.cons rfl (fun K hK=>?_) AllReadyH.nil
       go_simp
       go_at_call 26
       refine (hQv91.see2 HX.out _).mono ?_
       rintro en v92 ⟨Ag,cg,rfl,hQv92⟩
       unfold eC
       clear hHeld hQv91
       refine hK.out _ _ (hQv92.cells HX.out) (fun hHeld=>?_)
       clear hK
       have hz:v92.heap[v88.heap.size]?=some (.cells #[.int .i64 0,.bool false,.int .i64 0,.int .i64 0,.int .i64 0,.slice none 0 0,.string ⟨#[]⟩] 85 (0,0)):=(hQv92.b4 _ rfl).2
       have y0:=Jaa hz 0
       have z0:=Jab hz 0
       have y1:=Jaa hz 1
       have z1:=Jab hz 1
       have y2:=Jaa hz 2
       have z2:=Jab hz 2
       have y3:=Jaa hz 3
       have z3:=Jab hz 3
       have y4:=Jaa hz 4
       have z4:=Jab hz 4
       have y5:=Jaa hz 5
       have z5:=Jab hz 5
       have y6:=Jaa hz 6
       have z6:=Jab hz 6
       obtain⟨V8,hV8⟩:=words.nm (((((((v92.setCell ⟨v88.heap.size,0,none⟩ (.int .i64 0)).setCell ⟨v88.heap.size,1,none⟩ (.bool true)).setCell ⟨v88.heap.size,2,none⟩ (.int .i64 3)).setCell ⟨v88.heap.size,3,none⟩ (.int .i64 0)).setCell ⟨v88.heap.size,4,none⟩ (.int .i64 1)).setCell ⟨v88.heap.size,5,none⟩ (.slice Af 0 cf)).setCell ⟨v88.heap.size,6,none⟩ (.string ⟨#[47,98]⟩))
       obtain⟨hc8,hz5,hP⟩:=hQv92.put4 HX.out Af cf V8 hV8
       have HP:=Lib.hid hP
       have HC8:=Lib.hid hc8
       have HZ5:Hid (V8.heap[V0.heap.size]?=some (.cells #[.int .i64 0,.bool false,.int .i64 0,.int .i64 0,.int .i64 0,.slice none 0 0,.string ⟨#[]⟩] 85 (0,0))):=Lib.hid hz5
       clear hP hc8 hz5 hz hQv92
       refine wpAnyH_ready (rs:=[12]) (by kernel_rfl) (by simp) ?_
       refine AllReadyH.cons rfl (fun K hK=>?_) AllReadyH.nil
       go_simp
       rw [←hV8]
       clear hHeld hV8 y0 z0 y1 z1 y2 z2 y3 z3 y4 z4 y5 z5 y6 z6
       refine hK.out _ _ HC8.out (fun hHeld=>?_)
       clear hK
       have y0:=Jaa HZ5.out 0
       have z0:=Jab HZ5.out 0
       have y1:=Jaa HZ5.out 1
       have z1:=Jab HZ5.out 1
       have y2:=Jaa HZ5.out 2
       have z2:=Jab HZ5.out 2
       have y3:=Jaa HZ5.out 3
       have z3:=Jab HZ5.out 3
       have y4:=Jaa HZ5.out 4
       have z4:=Jab HZ5.out 4
       have y5:=Jaa HZ5.out 5
       have z5:=Jab HZ5.out 5
       have y6:=Jaa HZ5.out 6
       have z6:=Jab HZ5.out 6
       obtain⟨V9,hV9⟩:=words.nm (((((((V8.setCell ⟨V0.heap.size,0,none⟩ (.int .i64 0)).setCell ⟨V0.heap.size,1,none⟩ (.bool true)).setCell ⟨V0.heap.size,2,none⟩ (.int .i64 3)).setCell ⟨V0.heap.size,3,none⟩ (.int .i64 0)).setCell ⟨V0.heap.size,4,none⟩ (.int .i64 1)).setCell ⟨V0.heap.size,5,none⟩ (.slice Ag 0 cg)).setCell ⟨V0.heap.size,6,none⟩ (.string ⟨#[47,98]⟩))
       obtain⟨hc9,hp9⟩:=HP.out Ag cg V9 hV9
       have HC9:=Lib.hid hc9
       have HP9:=Lib.hid hp9
       clear hc9 hp9 HP
       refine wpAnyH_ready (rs:=[13]) (by kernel_rfl) (by simp) ?_
       refine AllReadyH.cons rfl (fun K hK=>?_) AllReadyH.nil
       go_simp
       rw [←hV9]
       clear hHeld hV9 y0 z0 y1 z1 y2 z2 y3 z3 y4 z4 y5 z5 y6 z6
       refine hK.out _ _ HC9.out (fun hHeld=>?_)
       clear hK
       refine wpAnyH_done (by kernel_rfl) ?_ _
       clear hHeld
       go_wp2_with fail
       go_meet
       case rel=>exact⟨_,_,rfl,rfl,HP9⟩
     ·go_simp
      obtain⟨v93,hv93⟩:=words.nm (v87.alloc (.cells #[.int .i64 0,.bool false,.int .i64 0,.int .i64 0,.int .i64 0,.slice none 0 0,.string ⟨#[]⟩] 85))
      rw [←hv93]
      have hQv93:=hQv87.alloc4 hv93
      clear hHeld hv93
      refine hK.out _ _ (hQv93.cells HX.out) (fun hHeld=>?_)
      clear hK
      refine wpAnyH_ready (rs:=[8]) (by kernel_rfl) (by simp) ?_
      refine AllReadyH.cons rfl (fun K hK=>?_) AllReadyH.nil
      go_simp
      go_at_call 27
      refine (hQv93.root HX.out).mono ?_
      rintro en v94 ⟨Aq,cq,rfl,hQv94⟩
      clear hHeld hQv93
      refine hK.out _ _ (hQv94.cells HX.out) (fun hHeld=>?_)
      clear hK
      refine wpAnyH_ready (rs:=[9]) (by kernel_rfl) (by simp) ?_
      refine AllReadyH.cons rfl (fun K hK=>?_) AllReadyH.nil
      go_simp
      go_at_call 26
      refine (hQv94.see2 HX.out _).mono ?_
      rintro en v95 ⟨Ag,cg,rfl,hQv95⟩
      unfold eC
      clear hHeld hQv94
      refine hK.out _ _ (hQv95.cells HX.out) (fun hHeld=>?_)
      clear hK
      have hz:v95.heap[v87.heap.size]?=some (.cells #[.int .i64 0,.bool false,.int .i64 0,.int .i64 0,.int .i64 0,.slice none 0 0,.string ⟨#[]⟩] 85 (0,0)):=(hQv95.b4 _ rfl).2
      have y0:=Jaa hz 0
      have z0:=Jab hz 0
      have y1:=Jaa hz 1
      have z1:=Jab hz 1
      have y2:=Jaa hz 2
      have z2:=Jab hz 2
      have y3:=Jaa hz 3
      have z3:=Jab hz 3
      have y4:=Jaa hz 4
      have z4:=Jab hz 4
      have y5:=Jaa hz 5
      have z5:=Jab hz 5
      have y6:=Jaa hz 6
      have z6:=Jab hz 6
      obtain⟨V8,hV8⟩:=words.nm (((((((v95.setCell ⟨v87.heap.size,0,none⟩ (.int .i64 0)).setCell ⟨v87.heap.size,1,none⟩ (.bool true)).setCell ⟨v87.heap.size,2,none⟩ (.int .i64 3)).setCell ⟨v87.heap.size,3,none⟩ (.int .i64 0)).setCell ⟨v87.heap.size,4,none⟩ (.int .i64 1)).setCell ⟨v87.heap.size,5,none⟩ (.slice Af 0 cf)).setCell ⟨v87.heap.size,6,none⟩ (.string ⟨#[47,98]⟩))
      obtain⟨hc8,hz5,hP⟩:=hQv95.put4 HX.out Af cf V8 hV8
      have HP:=Lib.hid hP
      have HC8:=Lib.hid hc8
      have HZ5:Hid (V8.heap[V0.heap.size]?=some (.cells #[.int .i64 0,.bool false,.int .i64 0,.int .i64 0,.int .i64 0,.slice none 0 0,.string ⟨#[]⟩] 85 (0,0))):=Lib.hid hz5
      clear hP hc8 hz5 hz hQv95
      refine wpAnyH_ready (rs:=[12]) (by kernel_rfl) (by simp) ?_
      refine AllReadyH.cons rfl (fun K hK=>?_) AllReadyH.nil
      go_simp
      rw [←hV8]
      clear hHeld hV8 y0 z0 y1 z1 y2 z2 y3 z3 y4 z4 y5 z5 y6 z6
      refine hK.out _ _ HC8.out (fun hHeld=>?_)
      clear hK
      have y0:=Jaa HZ5.out 0
      have z0:=Jab HZ5.out 0
      have y1:=Jaa HZ5.out 1
      have z1:=Jab HZ5.out 1
      have y2:=Jaa HZ5.out 2
      have z2:=Jab HZ5.out 2
      have y3:=Jaa HZ5.out 3
      have z3:=Jab HZ5.out 3
      have y4:=Jaa HZ5.out 4
      have z4:=Jab HZ5.out 4
      have y5:=Jaa HZ5.out 5
      have z5:=Jab HZ5.out 5
      have y6:=Jaa HZ5.out 6
      have z6:=Jab HZ5.out 6
      obtain⟨V9,hV9⟩:=words.nm (((((((V8.setCell ⟨V0.heap.size,0,none⟩ (.int .i64 0)).setCell ⟨V0.heap.size,1,none⟩ (.bool true)).setCell ⟨V0.heap.size,2,none⟩ (.int .i64 3)).setCell ⟨V0.heap.size,3,none⟩ (.int .i64 0)).setCell ⟨V0.heap.size,4,none⟩ (.int .i64 1)).setCell ⟨V0.heap.size,5,none⟩ (.slice Ag 0 cg)).setCell ⟨V0.heap.size,6,none⟩ (.string ⟨#[47,98]⟩))
      obtain⟨hc9,hp9⟩:=HP.out Ag cg V9 hV9
      have HC9:=Lib.hid hc9
      have HP9:=Lib.hid hp9
      clear hc9 hp9 HP
      refine wpAnyH_ready (rs:=[13]) (by kernel_rfl) (by simp) ?_
      refine AllReadyH.cons rfl (fun K hK=>?_) AllReadyH.nil
      go_simp
      rw [←hV9]
      clear hHeld hV9 y0 z0 y1 z1 y2 z2 y3 z3 y4 z4 y5 z5 y6 z6
      refine hK.out _ _ HC9.out (fun hHeld=>?_)
      clear hK
      refine wpAnyH_done (by kernel_rfl) ?_ _
      clear hHeld
      go_wp2_with fail
      go_meet
      case rel=>exact⟨_,_,rfl,rfl,HP9⟩
    ·go_simp
     obtain⟨v96,hv96⟩:=words.nm (v86.alloc (.cells #[.int .i64 0,.bool false,.int .i64 0,.int .i64 0,.int .i64 0,.slice none 0 0,.string ⟨#[]⟩] 85))
     rw [←hv96]
     have hQv96:=hQv86.alloc4 hv96
     clear hHeld hv96
     refine hK.out _ _ (hQv96.cells HX.out) (fun hHeld=>?_)
     clear hK
     refine wpAnyH_ready (rs:=[4]) (by kernel_rfl) (by simp) ?_
     refine AllReadyH.cons rfl (fun K hK=>?_) AllReadyH.nil
     go_simp
     go_at_call 26
     refine (hQv96.see1 HX.out _).mono ?_
     rintro en v97 ⟨Af,cf,rfl,hQv97⟩
     unfold eC
     clear hHeld hQv96
     refine hK.out _ _ (hQv97.cells HX.out) (fun hHeld=>?_)
     clear hK
     refine wpAnyH_ready (rs:=[8]) (by kernel_rfl) (by simp) ?_
     refine AllReadyH.cons rfl (fun K hK=>?_) AllReadyH.nil
     go_simp
     go_at_call 27
     refine (hQv97.root HX.out).mono ?_
     rintro en v98 ⟨Aq,cq,rfl,hQv98⟩
     clear hHeld hQv97
     refine hK.out _ _ (hQv98.cells HX.out) (fun hHeld=>?_)
     clear hK
     refine wpAnyH_ready (rs:=[9]) (by kernel_rfl) (by simp) ?_
     refine AllReadyH.cons rfl (fun K hK=>?_) AllReadyH.nil
     go_simp
     go_at_call 26
     refine (hQv98.see2 HX.out _).mono ?_
     rintro en v99 ⟨Ag,cg,rfl,hQv99⟩
     unfold eC
     clear hHeld hQv98
     refine hK.out _ _ (hQv99.cells HX.out) (fun hHeld=>?_)
     clear hK
     have hz:v99.heap[v86.heap.size]?=some (.cells #[.int .i64 0,.bool false,.int .i64 0,.int .i64 0,.int .i64 0,.slice none 0 0,.string ⟨#[]⟩] 85 (0,0)):=(hQv99.b4 _ rfl).2
     have y0:=Jaa hz 0
     have z0:=Jab hz 0
     have y1:=Jaa hz 1
     have z1:=Jab hz 1
     have y2:=Jaa hz 2
     have z2:=Jab hz 2
     have y3:=Jaa hz 3
     have z3:=Jab hz 3
     have y4:=Jaa hz 4
     have z4:=Jab hz 4
     have y5:=Jaa hz 5
     have z5:=Jab hz 5
     have y6:=Jaa hz 6
     have z6:=Jab hz 6
     obtain⟨V8,hV8⟩:=words.nm (((((((v99.setCell ⟨v86.heap.size,0,none⟩ (.int .i64 0)).setCell ⟨v86.heap.size,1,none⟩ (.bool true)).setCell ⟨v86.heap.size,2,none⟩ (.int .i64 3)).setCell ⟨v86.heap.size,3,none⟩ (.int .i64 0)).setCell ⟨v86.heap.size,4,none⟩ (.int .i64 1)).setCell ⟨v86.heap.size,5,none⟩ (.slice Af 0 cf)).setCell ⟨v86.heap.size,6,none⟩ (.string ⟨#[47,98]⟩))
     obtain⟨hc8,hz5,hP⟩:=hQv99.put4 HX.out Af cf V8 hV8
     have HP:=Lib.hid hP
     have HC8:=Lib.hid hc8
     have HZ5:Hid (V8.heap[V0.heap.size]?=some (.cells #[.int .i64 0,.bool false,.int .i64 0,.int .i64 0,.int .i64 0,.slice none 0 0,.string ⟨#[]⟩] 85 (0,0))):=Lib.hid hz5
     clear hP hc8 hz5 hz hQv99
     refine wpAnyH_ready (rs:=[12]) (by kernel_rfl) (by simp) ?_
     refine AllReadyH.cons rfl (fun K hK=>?_) AllReadyH.nil
     go_simp
     rw [←hV8]
     clear hHeld hV8 y0 z0 y1 z1 y2 z2 y3 z3 y4 z4 y5 z5 y6 z6
     refine hK.out _ _ HC8.out (fun hHeld=>?_)
     clear hK
     have y0:=Jaa HZ5.out 0
     have z0:=Jab HZ5.out 0
     have y1:=Jaa HZ5.out 1
     have z1:=Jab HZ5.out 1
     have y2:=Jaa HZ5.out 2
     have z2:=Jab HZ5.out 2
     have y3:=Jaa HZ5.out 3
     have z3:=Jab HZ5.out 3
     have y4:=Jaa HZ5.out 4
     have z4:=Jab HZ5.out 4
     have y5:=Jaa HZ5.out 5
     have z5:=Jab HZ5.out 5
     have y6:=Jaa HZ5.out 6
     have z6:=Jab HZ5.out 6
     obtain⟨V9,hV9⟩:=words.nm (((((((V8.setCell ⟨V0.heap.size,0,none⟩ (.int .i64 0)).setCell ⟨V0.heap.size,1,none⟩ (.bool true)).setCell ⟨V0.heap.size,2,none⟩ (.int .i64 3)).setCell ⟨V0.heap.size,3,none⟩ (.int .i64 0)).setCell ⟨V0.heap.size,4,none⟩ (.int .i64 1)).setCell ⟨V0.heap.size,5,none⟩ (.slice Ag 0 cg)).setCell ⟨V0.heap.size,6,none⟩ (.string ⟨#[47,98]⟩))
     obtain⟨hc9,hp9⟩:=HP.out Ag cg V9 hV9
     have HC9:=Lib.hid hc9
     have HP9:=Lib.hid hp9
     clear hc9 hp9 HP
     refine wpAnyH_ready (rs:=[13]) (by kernel_rfl) (by simp) ?_
     refine AllReadyH.cons rfl (fun K hK=>?_) AllReadyH.nil
     go_simp
     rw [←hV9]
     clear hHeld hV9 y0 z0 y1 z1 y2 z2 y3 z3 y4 z4 y5 z5 y6 z6
     refine hK.out _ _ HC9.out (fun hHeld=>?_)
     clear hK
     refine wpAnyH_done (by kernel_rfl) ?_ _
     clear hHeld
     go_wp2_with fail
     go_meet
     case rel=>exact⟨_,_,rfl,rfl,HP9⟩
   ·go_simp
    obtain⟨v100,hv100⟩:=words.nm (v85.alloc (.cells #[.int .i64 0,.bool false,.int .i64 0,.int .i64 0,.int .i64 0,.slice none 0 0,.string ⟨#[]⟩] 85))
    rw [←hv100]
    have hQv100:=hQv85.alloc4 hv100
    clear hHeld hv100
    refine hK.out _ _ (hQv100.cells HX.out) (fun hHeld=>?_)
    clear hK
    refine wpAnyH_ready (rs:=[3]) (by kernel_rfl) (by simp) ?_
    refine AllReadyH.cons rfl (fun K hK=>?_) AllReadyH.nil
    go_simp
    go_at_call 27
    refine (hQv100.root HX.out).mono ?_
    rintro en v101 ⟨Ap,cp,rfl,hQv101⟩
    clear hHeld hQv100
    refine hK.out _ _ (hQv101.cells HX.out) (fun hHeld=>?_)
    clear hK
    refine wpAnyH_ready (rs:=[4]) (by kernel_rfl) (by simp) ?_
    refine AllReadyH.cons rfl (fun K hK=>?_) AllReadyH.nil
    go_simp
    go_at_call 26
    refine (hQv101.see1 HX.out _).mono ?_
    rintro en v102 ⟨Af,cf,rfl,hQv102⟩
    unfold eC
    clear hHeld hQv101
    refine hK.out _ _ (hQv102.cells HX.out) (fun hHeld=>?_)
    clear hK
    refine wpAnyH_ready (rs:=[8]) (by kernel_rfl) (by simp) ?_
    refine AllReadyH.cons rfl (fun K hK=>?_) AllReadyH.nil
    go_simp
    go_at_call 27
    refine (hQv102.root HX.out).mono ?_
    rintro en v103 ⟨Aq,cq,rfl,hQv103⟩
    clear hHeld hQv102
    refine hK.out _ _ (hQv103.cells HX.out) (fun hHeld=>?_)
    clear hK
    refine wpAnyH_ready (rs:=[9]) (by kernel_rfl) (by simp) ?_
    refine AllReadyH.cons rfl (fun K hK=>?_) AllReadyH.nil
    go_simp
    go_at_call 26
    refine (hQv103.see2 HX.out _).mono ?_
    rintro en v104 ⟨Ag,cg,rfl,hQv104⟩
    unfold eC
    clear hHeld hQv103
    refine hK.out _ _ (hQv104.cells HX.out) (fun hHeld=>?_)
    clear hK
    have hz:v104.heap[v85.heap.size]?=some (.cells #[.int .i64 0,.bool false,.int .i64 0,.int .i64 0,.int .i64 0,.slice none 0 0,.string ⟨#[]⟩] 85 (0,0)):=(hQv104.b4 _ rfl).2
    have y0:=Jaa hz 0
    have z0:=Jab hz 0
    have y1:=Jaa hz 1
    have z1:=Jab hz 1
    have y2:=Jaa hz 2
    have z2:=Jab hz 2
    have y3:=Jaa hz 3
    have z3:=Jab hz 3
    have y4:=Jaa hz 4
    have z4:=Jab hz 4
    have y5:=Jaa hz 5
    have z5:=Jab hz 5
    have y6:=Jaa hz 6
    have z6:=Jab hz 6
    obtain⟨V8,hV8⟩:=words.nm (((((((v104.setCell ⟨v85.heap.size,0,none⟩ (.int .i64 0)).setCell ⟨v85.heap.size,1,none⟩ (.bool true)).setCell ⟨v85.heap.size,2,none⟩ (.int .i64 3)).setCell ⟨v85.heap.size,3,none⟩ (.int .i64 0)).setCell ⟨v85.heap.size,4,none⟩ (.int .i64 1)).setCell ⟨v85.heap.size,5,none⟩ (.slice Af 0 cf)).setCell ⟨v85.heap.size,6,none⟩ (.string ⟨#[47,98]⟩))
    obtain⟨hc8,hz5,hP⟩:=hQv104.put4 HX.out Af cf V8 hV8
    have HP:=Lib.hid hP
    have HC8:=Lib.hid hc8
    have HZ5:Hid (V8.heap[V0.heap.size]?=some (.cells #[.int .i64 0,.bool false,.int .i64 0,.int .i64 0,.int .i64 0,.slice none 0 0,.string ⟨#[]⟩] 85 (0,0))):=Lib.hid hz5
    clear hP hc8 hz5 hz hQv104
    refine wpAnyH_ready (rs:=[12]) (by kernel_rfl) (by simp) ?_
    refine AllReadyH.cons rfl (fun K hK=>?_) AllReadyH.nil
    go_simp
    rw [←hV8]
    clear hHeld hV8 y0 z0 y1 z1 y2 z2 y3 z3 y4 z4 y5 z5 y6 z6
    refine hK.out _ _ HC8.out (fun hHeld=>?_)
    clear hK
    have y0:=Jaa HZ5.out 0
    have z0:=Jab HZ5.out 0
    have y1:=Jaa HZ5.out 1
    have z1:=Jab HZ5.out 1
    have y2:=Jaa HZ5.out 2
    have z2:=Jab HZ5.out 2
    have y3:=Jaa HZ5.out 3
    have z3:=Jab HZ5.out 3
    have y4:=Jaa HZ5.out 4
    have z4:=Jab HZ5.out 4
    have y5:=Jaa HZ5.out 5
    have z5:=Jab HZ5.out 5
    have y6:=Jaa HZ5.out 6
    have z6:=Jab HZ5.out 6
    obtain⟨V9,hV9⟩:=words.nm (((((((V8.setCell ⟨V0.heap.size,0,none⟩ (.int .i64 0)).setCell ⟨V0.heap.size,1,none⟩ (.bool true)).setCell ⟨V0.heap.size,2,none⟩ (.int .i64 3)).setCell ⟨V0.heap.size,3,none⟩ (.int .i64 0)).setCell ⟨V0.heap.size,4,none⟩ (.int .i64 1)).setCell ⟨V0.heap.size,5,none⟩ (.slice Ag 0 cg)).setCell ⟨V0.heap.size,6,none⟩ (.string ⟨#[47,98]⟩))
    obtain⟨hc9,hp9⟩:=HP.out Ag cg V9 hV9
    have HC9:=Lib.hid hc9
    have HP9:=Lib.hid hp9
    clear hc9 hp9 HP
    refine wpAnyH_ready (rs:=[13]) (by kernel_rfl) (by simp) ?_
    refine AllReadyH.cons rfl (fun K hK=>?_) AllReadyH.nil
    go_simp
    rw [←hV9]
    clear hHeld hV9 y0 z0 y1 z1 y2 z2 y3 z3 y4 z4 y5 z5 y6 z6
    refine hK.out _ _ HC9.out (fun hHeld=>?_)
    clear hK
    refine wpAnyH_done (by kernel_rfl) ?_ _
    clear hHeld
    go_wp2_with fail
    go_meet
    case rel=>exact⟨_,_,rfl,rfl,HP9⟩
 case rest=>
  obtain⟨a4,a5,rfl,rfl,HP⟩:=hcut
  obtain⟨bo,A2,c2,hs⟩:=HP.out.ph
  obtain⟨Af,cf,h4⟩:=HP.out.e4
  obtain⟨Ag,cg,h5⟩:=HP.out.e5
  have hbc:=HX.out.bel.trans (HP.out.kept.below HX.out.bel.size)
  have hnl:((shd.news gs 2).set i ⟨g,bo,2,[(kA,eV A2 c2)]⟩).length=2:=by rw [List.length_set,Jeb,HX.out.len]
  have HH:=Lib.hid (show Calls Tryz.prog 19 #[.pointer (some ⟨b.v,0,none⟩)] wc (Still wc (.tuple #[.int .i64 1,.int .i64 1,.int .i64 0])) from Jn7 hs)
  have HS:=Lib.hid hs
  have HBc:=Lib.hid hbc
  have H4:=Lib.hid h4
  have H5:=Lib.hid h5
  have HNl:=Lib.hid hnl
  clear hs hbc h4 h5 hnl HP
  go_wp2_with fail
  refine HH.out.mono ?_
  rintro e w11 ⟨rfl,hb11⟩
  obtain⟨N,hN⟩:∃N:Int,N=(i:Int):=⟨_,rfl⟩
  have HNk:=Lib.hid (show Calls Tryz.prog 20 #[.pointer (some ⟨b.v,0,none⟩),.string ⟨#[47]⟩,.string ⟨#[97]⟩] w11 (Still w11 (.agg #[.bool false,.int .i64 N])) from by
    have h1:=Jln ⟨#[47]⟩ ⟨#[97]⟩ (HS.out.later hb11) (show 0<((shd.news gs 2).set i ⟨g,bo,2,[(kA,eV A2 c2)]⟩).length by rw [HNl.out];decide) (show ((shd.news gs 2).set i ⟨g,bo,2,[(kA,eV A2 c2)]⟩).length≤256 by rw [HNl.out];decide) (by decide) (by decide)
    rw [show (dk A c L gs gs2 g i bo A2 c2 ((1:Nat):Int)).N.length=2 from HNl.out,show sha.ofF (dca.childB ⟨#[47]⟩ ⟨#[97]⟩) 2=i from HX.out.of.symm,←hN] at h1
    exact h1)
  have HB11:=Lib.hid hb11
  have HNe:=Lib.hid hN
  clear hb11 HH hN
  go_wp2_with fail
  refine HNk.out.mono ?_
  rintro e w12 ⟨rfl,hb12⟩
  obtain⟨a9,ha9⟩:=words.nm (w12.heap.size)
  obtain⟨W13,hW13⟩:=words.nm (w12.alloc (.cells #[.bool false,.int .i64 N] 35))
  have hb13:Below w12.heap.size w12 W13:=by rw [hW13];exact (Below.refl _ _).alloc (Nat.le_refl _) _
  have hk13:W13.heap[a9]?=some (.cells #[.bool false,.int .i64 N] 35 (0,0)):=by rw [hW13,ha9];exact heap_alloc_new w12 _
  have hbc13:Below wc.heap.size wc W13:=HB11.out.trans ((hb12.trans (hb13.mono hb12.size)).mono HB11.out.size)
  have hs13:=HS.out.later hbc13
  have x4:W13.cell? ⟨a4,1,none⟩=some (.bool true):=Jaa ((hbc13.block _ (lt_of_some H4.out)).trans H4.out) 1
  have x5:W13.cell? ⟨a5,6,none⟩=some (.string ⟨#[47,98]⟩):=Jaa ((hbc13.block _ (lt_of_some H5.out)).trans H5.out) 6
  have x90:=Jaa hk13 0
  have x91:=Jaa hk13 1
  obtain⟨l,hl⟩:∃l:Lk,kvL l= .agg #[.bool false,.int .i64 N]:=⟨(false,⟨i,by rw [HX.out.of];exact Nat.lt_of_lt_of_le (sha.ofF_lt kA (by decide)) (by decide)⟩),by rw [HNe.out];rfl⟩
  have HT1:=Lib.hid (Ji0 (l:=l) (id:=1) hs13 hl rfl (Nat.zero_le _))
  have HK13:=Lib.hid hk13
  have HBV:=Lib.hid (HBc.out.trans (hbc13.mono HBc.out.size))
  have HL:=Lib.hid hl
  have HW13:=Lib.hid hW13
  have HA9:=Lib.hid ha9
  have hne:a9≠b.mp:=by
   have h1:=HS.out.lt.2
   have h2:wc.heap.size≤w12.heap.size:=Nat.le_trans HB11.out.size hb12.size
   omega
  have HNE:=Lib.hid hne
  clear hb12 hb13 hk13 hbc13 hs13 hl hW13 ha9 HNk hne
  go_upto_region 10 with fail
  rw [←HA9.out,←HW13.out]
  go_wp2_with fail
  refine HT1.out.mono ?_
  rintro e w14 ⟨rfl,hs14,ht14⟩
  have hk14:=(ht14.block a9 (lt_of_some HK13.out) HNE.out).trans HK13.out
  have hb14:Below v1.heap.size v1 w14:=HBV.out.trans (ht14.below (fun k hk=>by rw [hk];exact hs14.mp) HBV.out.size)
  have hT2:=Jkk (l:=l) (id:=2) (v:=1) hs14 HL.out (by show valK ([]++[(l,1)]) l=some 1;simp [valK])
  have HT2:=Lib.hid hT2
  have HS14:=Lib.hid hs14
  have HB14:=Lib.hid hb14
  have x90:=Jaa hk14 0
  have x91:=Jaa hk14 1
  clear hs14 ht14 hk14 hb14 hT2 HT1 x4 x5
  go_wp2_with fail
  refine HT2.out.mono ?_
  rintro e w15 ⟨rfl,hb15⟩
  have hs15:=HS14.out.later hb15
  have HHd:=Lib.hid (show Calls Tryz.prog 10 #[.pointer (some ⟨b.v,0,none⟩)] w15 (fun e w'=>e= .returned (.int .i64 1)∧w'=w15) from Jca hs15)
  have HB15:=Lib.hid (HB14.out.trans (hb15.mono HB14.out.size))
  have HS15:=Lib.hid hs15
  clear hb15 hs15 HT2 x90 x91
  go_wp2_with fail
  refine HHd.out.mono ?_
  rintro e w16 ⟨rfl,rfl⟩
  obtain⟨i2,hi2⟩:=words.nm (sha.ofF ⟨#[47]⟩ 2)
  obtain⟨g2,hg2⟩:∃g2,gs2[i2]?=some g2:=⟨_,List.getElem?_eq_getElem (by rw [HG2.out,hi2];exact sha.ofF_lt _ (by decide))⟩
  have hn2:(shl.news gs2 2).length=2:=by unfold shl.news;rw [List.length_map,HG2.out]
  have hls:=Jn3 HLk.out HB15.out c mx (Jae HM.out HBv.out)
  have HLi:=Lib.hid (Jnh (i:=i2) (c:=⟨g2,none,2,[]⟩) (p:=⟨#[47]⟩) (l:=[(ab,3)]) HS15.out HB15.out.size
    ⟨show 0<(shl.news gs2 2).length by rw [hn2];decide,show (shl.news gs2 2).length≤256 by rw [hn2];decide,show i2=sha.ofF ⟨#[47]⟩ (shl.news gs2 2).length by rw [hn2];exact hi2,show (shl.news gs2 2)[i2]?=some ⟨g2,none,2,[]⟩ by unfold shl.news;rw [List.getElem?_map,hg2];rfl,Nat.zero_le _,by decide⟩ (show (0:Int)≤0∧(0:Int)≤1000000 by decide) rfl (by decide) hls)
  have l1:([(ab,3)]:List (ByteArray×Int)).length=1:=rfl
  unfold ListV at HLi
  rw [l1] at HLi
  clear hi2 hg2 hn2 hls l1 HHd
  go_wp2_with fail
  refine HLi.out.mono ?_
  rintro e w17 ⟨Al,cl,Ls,rfl,_,_,_,hk17⟩
  have HF:=Lib.hid (HBv.out.trans ((HB15.out.trans (hk17.below HB15.out.size)).mono HBv.out.size))
  clear hk17 HLi
  go_wp2_with fail
  go_ret
  exact⟨rfl,HF.out⟩
end Go.Proofs.YtckjkndegjklnaaGreatDoor.svr
