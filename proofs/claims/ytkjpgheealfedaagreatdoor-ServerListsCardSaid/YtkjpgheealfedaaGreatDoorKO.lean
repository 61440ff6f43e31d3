import Derived.Test.YtkjpgheealfedaaGreatDoorKN
set_option maxHeartbeats 51200000
set_option maxRecDepth 100000
open Go.Lib (hid)
open Go.Proofs.Tryz
namespace Go.Proofs.YtkjpgheealfedaaGreatDoor.svr
open Go.RowKit Go.Maps words lru tre stk Go.Proofs.YtkjpgheealfedaaGreatDoor.seen
theorem Jje (mx:Int) (w:World) (hm:w.cell? ⟨0,0,none⟩=some (.int .i64 mx)):Calls prog 4 #[] w fun e w'=>e= .returned (.bool true)∧Below w.heap.size w w':=by
 have HM:=hid hm;clear hm;obtain⟨W1,hW1⟩:=words.nm (w.alloc (.cells #[.string ab] 9));have hb1:=words.b1 hW1;have hT1:Txts W1 W1.heap.size (some ⟨w.heap.size,0,none⟩) [ab]:=by rw [hW1];exact Jpl w ab (by decide)
 have HT1:=hid hT1;have HB1:=hid hb1;have hW1':W1=w.alloc (.cells #[.string ⟨#[97]⟩] 9):=hW1;have HW1:=hid hW1';clear hW1 hW1' hb1 hT1;go_enter func4,ntmps4
 go_wp2_with fail
 rw [←HW1.out];refine (show Calls prog 18 #[.string ⟨#[47,98]⟩] W1 _ from ((Jp7 slb W1 (by decide)).mono fun _ _ h=>h.as Jtr)).mono ?_;rintro e w2 ⟨r2,rfl,hn2,hb2⟩;go_wp2_with fail
 obtain⟨W4,hW4⟩:=words.nm (w2.alloc (.cells (rawCells (linkN slb) r2) 70));have hb4:Below w2.heap.size w2 W4:=words.b1 hW4;have hb14:Below W1.heap.size W1 W4:=hb2.trans (hb4.mono hb2.size);have HP4:=hid (Jsq ab (linkN slb) r2 w.heap.size w2 W4 hW4 ((HT1.out.keep hb14).more hb14.size) hn2);have HB4:=hid (HB1.out.trans (hb14.mono HB1.out.size));have hW4'':W4=w2.alloc (.cells #[.int .i64 3,.bool false,.slice r2.An 0 r2.cn,.slice r2.Ai 0 r2.ci,.int .i64 0,.slice r2.Ae 0 r2.ce,.string ⟨#[47,98]⟩] 70):=hW4;rw [←hW4''];clear hW4 hW4'' hb4 hb14 hn2 hb2 HT1 HB1 HW1;refine (HP4.out.mono fun _ _ h=>h.as lk_v).mono ?_;rintro e w6 ⟨r6,rfl,hn6,hb6⟩;obtain⟨W7,hW7⟩:=words.nm (w6.alloc (.cells (rawCells lk r6) 70));have hb7:Below w6.heap.size w6 W7:=words.b1 hW7;have hb57:Below W4.heap.size W4 W7:=hb6.trans (hb7.mono hb6.size);have HB7:=hid (HB4.out.trans (hb57.mono HB4.out.size));have hT7:=Jro hW7 hn6;have HC:=hid (show Calls prog 16 #[.slice (some ⟨w6.heap.size,0,none⟩) 1 1] W7 (OfOut [lk] W7) from stk.of_any _ 1 [lk] _ mx W7 hT7 (Jae HM.out HB7.out) Jsi (by decide));have hW7':W7=w6.alloc (.cells #[.int .i64 2,.bool false,.slice r6.An 1 r6.cn,.slice r6.Ai 1 r6.ci,.int .i64 0,.slice r6.Ae 0 r6.ce,.string ⟨#[]⟩] 70):=hW7;have HW7:=hid hW7';clear hn6 hb6 hb7 hb57 hT7 hW7 hW7' HP4 HB4;go_wp2_with fail
 rw [←HW7.out];refine HC.out.mono ?_;rintro e w8 hof;rcases hof with⟨A,c,L,rfl,hok,_,_,hb8⟩ |⟨er,_,hbad,_⟩
 rotate_left 1
 ·exfalso
  rcases hbad with⟨_,t,ht,hf⟩ |⟨_,hlt⟩
  ·rw [Jqk t ht] at hf;cases hf
  ·exact absurd hlt (by decide)
 obtain⟨gB,hgB⟩:=words.nm (w8.heap.size);obtain⟨W9,hW9⟩:=words.nm (w8.alloc (.cells #[.slice A 1 c,.int .i64 1] 29));have hb9:Below w8.heap.size w8 W9:=words.b1 hW9;have hk9:W9.heap[gB]?=some (.cells #[.slice A 1 c,.int .i64 1] 29 (0,0)):=by rw [hW9,hgB];exact heap_alloc_new w8 _
 have HOk:=hid (hok.later hb9);have HL1:Hid (L.length=1):=hid hok.len;have HK9:=hid hk9;have HB9:=hid ((HB7.out.trans (hb8.mono HB7.out.size)).trans (hb9.mono (HB7.out.trans (hb8.mono HB7.out.size)).size));have HW9:=hid hW9;have HGB:=hid hgB;have t9:([lk]:List Nd).length=1:=rfl;clear hok hb8 hb9 hk9 hW9 HC HW7 HB7 hgB;unfold stkV;go_upto_region 2 with fail
 rw [←HGB.out,←HW9.out];clear HW9 t9 HGB;have s0:=Jaa HK9.out 0;have s1:=Jaa HK9.out 1;have HC:=hid (show Calls prog 19 #[.agg #[.slice A 1 c,.int .i64 1]] W9 fun e w'=>e= .returned (.int .i64 1)∧Below W9.heap.size W9 w' from Jcx A 1 c 1 W9);go_wp2_with fail
 refine HC.out.mono ?_;rintro e v1 ⟨rfl,hv1⟩;have HO1:=hid (HOk.out.later hv1);have HBv:=hid (HB9.out.trans (hv1.mono HB9.out.size));have es:=(hv1.block _ (lt_of_some HK9.out)).trans HK9.out;have HES:=hid es;clear HC hv1 s0 s1 HOk;have s0:=Jaa es 0;have s1:=Jaa es 1;have HNw:=hid (show Calls prog 8 #[.agg #[.slice A 1 c,.int .i64 1],.agg #[.int .i64 2,.int .i64 2,.int .i64 2]] v1 (MadeV A c L 1 2 2 2 v1) from by
   have h1:=Jk0 A c L 1 2 2 2 2 2 2 v1 (by decide) (by decide) (by decide);rw [HL1.out] at h1;exact h1)
 clear es;go_wp2_with fail
 refine HNw.out.mono ?_;rintro e w10 ⟨b,gs,gs2,rfl,hgs,hgs2,hsv,hb10⟩;obtain⟨i,hi⟩:=words.nm (sha.ofF kA 2);have hlt:i<gs.length:=by rw [hgs,hi];exact sha.ofF_lt kA (by decide)
 obtain⟨g,hg⟩:∃g,gs[i]?=some g:=⟨_,List.getElem?_eq_getElem hlt⟩
 have HLk:Hid (LkM v1 A L):=hid ⟨seen.StkOk.stkM HO1.out,HL1.out⟩;have HX:Hid (Spk v1 w10 A c L b gs gs2 g i gB):=hid ⟨HLk.out,hb10,hgs,hi,hg,hsv,(hb10.block _ (lt_of_some HES.out)).trans HES.out⟩;have HG2:=hid hgs2;clear hgs hgs2 hsv hb10 hi hlt hg HNw s0 s1 HO1 HK9 HES;go_upto_region 7 with fail
 go_cut [4,5] from 31 to 41 (fun v4 v5 wx=>∃a4 a5:Nat,v4= .pointer (some ⟨a4,0,none⟩)∧v5= .pointer (some ⟨a5,0,none⟩)∧Hid (Pst v1 w10 A c L b gs gs2 g i a4 a5 wx))
 case first=>
  obtain⟨V0,hV⟩:=words.nm (World.drew w10);have hQ0:Q v1 w10 A c L b gs gs2 g i 0 none none none w10:=⟨HX.out.sv,Kept.refl _ _ _,fun _ e=>(by cases e),fun _ e=>(by cases e),fun _ _ e=>(by cases e),fun _ e=>(by cases e)⟩
  have hQV0:=hQ0.later (show Below w10.heap.size w10 V0 by rw [hV];exact (Below.refl _ _).drew);refine wp_region_held_drew (S:=(fun w'=>w'.cell? ⟨gB,0,none⟩=some (.slice A 1 c)∧w'.cell? ⟨gB,1,none⟩=some (.int .i64 1))) (by kernel_rfl) (by rw [←hV];exact hQV0.cells HX.out) (fun hHeld=>?_);rw [←hV] at hHeld ⊢;clear hV hQ0;refine words.tk 0 31 (v:=?_) ?_ ?_
  rotate_left 1
  ·intro _ h;(try dsimp only at h);go_simp;(try with_reducible rfl)
  try simp only [words.pt]
  refine words.tk 1 32 (v:=?_) ?_ ?_
  rotate_left 1
  ·intro _ h;(try dsimp only at h);go_simp;(try with_reducible rfl)
  try simp only [words.pt]
  refine words.tk 2 33 (v:=?_) ?_ ?_
  rotate_left 1
  ·intro _ h;(try dsimp only at h);go_simp;(try with_reducible rfl)
  try simp only [words.pt]
  refine words.tk 5 36 (v:=?_) ?_ ?_
  rotate_left 1
  ·intro _ h;(try dsimp only at h);go_simp;(try with_reducible rfl)
  try simp only [words.pt]
  refine words.tk 6 37 (v:=?_) ?_ ?_
  rotate_left 1
  ·intro _ h;(try dsimp only at h);go_simp;(try with_reducible rfl)
  try simp only [words.pt]
  refine words.tk 7 38 (v:=?_) ?_ ?_
  rotate_left 1
  ·intro _ h;(try dsimp only at h);go_simp;(try with_reducible rfl)
  try simp only [words.pt]
  refine wpAnyH_ready (rs:=[3,10,11]) (by kernel_rfl) (by simp) ?_;refine AllReadyH.cons rfl (fun K hK=>?_) (AllReadyH.cons rfl (fun K hK=>?_) (AllReadyH.cons rfl (fun K hK=>?_) AllReadyH.nil))
  ·go_simp
   go_at_call 21
   refine (hQV0.root HX.out).mono ?_;rintro en v1 ⟨Ap,cp,rfl,hQv1⟩;clear hHeld hQV0;refine hK.out _ _ (hQv1.cells HX.out) (fun hHeld=>?_);clear hK;refine wpAnyH_ready (rs:=[4,10,11]) (by kernel_rfl) (by simp) ?_;refine AllReadyH.cons rfl (fun K hK=>?_) (AllReadyH.cons rfl (fun K hK=>?_) (AllReadyH.cons rfl (fun K hK=>?_) AllReadyH.nil))
   ·go_simp
    go_at_call 20
    refine (hQv1.see1 HX.out _).mono ?_;rintro en v2 ⟨Af,cf,rfl,hQv2⟩;unfold eC;clear hHeld hQv1;refine hK.out _ _ (hQv2.cells HX.out) (fun hHeld=>?_);clear hK;refine wpAnyH_ready (rs:=[8,10,11]) (by kernel_rfl) (by simp) ?_;refine AllReadyH.cons rfl (fun K hK=>?_) (AllReadyH.cons rfl (fun K hK=>?_) (AllReadyH.cons rfl (fun K hK=>?_) AllReadyH.nil))
    ·go_simp
     go_at_call 21
     refine (hQv2.root HX.out).mono ?_;rintro en v3 ⟨Aq,cq,rfl,hQv3⟩;clear hHeld hQv2;refine hK.out _ _ (hQv3.cells HX.out) (fun hHeld=>?_);clear hK;refine wpAnyH_ready (rs:=[9,10,11]) (by kernel_rfl) (by simp) ?_;refine AllReadyH.cons rfl (fun K hK=>?_) (AllReadyH.cons rfl (fun K hK=>?_) (AllReadyH.cons rfl (fun K hK=>?_) AllReadyH.nil))
     ·go_simp
      go_at_call 20
      refine (hQv3.see2 HX.out _).mono ?_;rintro en v4 ⟨Ag,cg,rfl,hQv4⟩;unfold eC;clear hHeld hQv3;refine hK.out _ _ (hQv4.cells HX.out) (fun hHeld=>?_);clear hK;refine wpAnyH_ready (rs:=[10,11]) (by kernel_rfl) (by simp) ?_;refine AllReadyH.cons rfl (fun K hK=>?_) (AllReadyH.cons rfl (fun K hK=>?_) AllReadyH.nil)
      ·go_simp
       obtain⟨v5,hv5⟩:=words.nm (aZ v4);have hQv5:=hQv4.alloc4 hv5;unfold aZ at hv5;rw [←hv5];clear hHeld hv5 hQv4;refine hK.out _ _ (hQv5.cells HX.out) (fun hHeld=>?_);clear hK;refine wpAnyH_ready (rs:=[11]) (by kernel_rfl) (by simp) (.cons rfl (fun K hK=>?_) .nil);go_simp
       obtain⟨v6,hv6⟩:=words.nm (aZ v5);have hQv6:=hQv5.alloc5 hv6;unfold aZ at hv6;rw [←hv6];clear hHeld hv6 hQv5;refine hK.out _ _ (hQv6.cells HX.out) (fun hHeld=>?_);clear hK;obtain⟨y0,y1,y2,y3,y4,y5,y6,z0,z1,z2,z3,z4,z5,z6⟩:=(hQv6.b4 _ rfl).all;obtain⟨V8,hV⟩:=words.nm (s7 v6 v4.heap.size Af cf);have HP:=hid (hQv6.put4 HX.out Af cf V8 hV);unfold s7 at hV;refine wpAnyH_ready (rs:=[12]) (by kernel_rfl) (by simp) (.cons rfl (fun K hK=>?_) .nil);go_simp
       rw [←hV];clear hHeld hV hQv6 y0 y1 y2 y3 y4 y5 y6 z0 z1 z2 z3 z4 z5 z6;refine hK.out _ _ HP.out.1 (fun hHeld=>?_);clear hK;obtain⟨y0,y1,y2,y3,y4,y5,y6,z0,z1,z2,z3,z4,z5,z6⟩:=HP.out.2.1.all;obtain⟨V9,hV⟩:=words.nm (s7 V8 v5.heap.size Ag cg);have HP9:=hid (HP.out.2.2 Ag cg V9 hV);unfold s7 at hV;refine wpAnyH_ready (rs:=[13]) (by kernel_rfl) (by simp) (.cons rfl (fun K hK=>?_) .nil);go_simp
       rw [←hV];clear hHeld hV HP y0 y1 y2 y3 y4 y5 y6 z0 z1 z2 z3 z4 z5 z6;refine hK.out _ _ HP9.out.1 (fun hHeld=>?_);clear hK;refine wpAnyH_done (by kernel_rfl) ?_ _;clear hHeld;go_wp2_with fail
       go_meet
       case rel=>exact⟨_,_,rfl,rfl,hid HP9.out.2⟩
      ·go_simp
       obtain⟨v7,hv7⟩:=words.nm (aZ v4);have hQv7:=hQv4.alloc5 hv7;unfold aZ at hv7;rw [←hv7];clear hHeld hv7 hQv4;refine hK.out _ _ (hQv7.cells HX.out) (fun hHeld=>?_);clear hK;refine wpAnyH_ready (rs:=[10]) (by kernel_rfl) (by simp) (.cons rfl (fun K hK=>?_) .nil);go_simp
       obtain⟨v8,hv8⟩:=words.nm (aZ v7);have hQv8:=hQv7.alloc4 hv8;unfold aZ at hv8;rw [←hv8];clear hHeld hv8 hQv7;refine hK.out _ _ (hQv8.cells HX.out) (fun hHeld=>?_);clear hK;obtain⟨y0,y1,y2,y3,y4,y5,y6,z0,z1,z2,z3,z4,z5,z6⟩:=(hQv8.b4 _ rfl).all;obtain⟨V8,hV⟩:=words.nm (s7 v8 v7.heap.size Af cf);have HP:=hid (hQv8.put4 HX.out Af cf V8 hV);unfold s7 at hV;refine wpAnyH_ready (rs:=[12]) (by kernel_rfl) (by simp) (.cons rfl (fun K hK=>?_) .nil);go_simp
       rw [←hV];clear hHeld hV hQv8 y0 y1 y2 y3 y4 y5 y6 z0 z1 z2 z3 z4 z5 z6;refine hK.out _ _ HP.out.1 (fun hHeld=>?_);clear hK;obtain⟨y0,y1,y2,y3,y4,y5,y6,z0,z1,z2,z3,z4,z5,z6⟩:=HP.out.2.1.all;obtain⟨V9,hV⟩:=words.nm (s7 V8 v4.heap.size Ag cg);have HP9:=hid (HP.out.2.2 Ag cg V9 hV);unfold s7 at hV;refine wpAnyH_ready (rs:=[13]) (by kernel_rfl) (by simp) (.cons rfl (fun K hK=>?_) .nil);go_simp
       rw [←hV];clear hHeld hV HP y0 y1 y2 y3 y4 y5 y6 z0 z1 z2 z3 z4 z5 z6;refine hK.out _ _ HP9.out.1 (fun hHeld=>?_);clear hK;refine wpAnyH_done (by kernel_rfl) ?_ _;clear hHeld;go_wp2_with fail
       go_meet
       case rel=>exact⟨_,_,rfl,rfl,hid HP9.out.2⟩
     ·go_simp
      obtain⟨v9,hv9⟩:=words.nm (aZ v3);have hQv9:=hQv3.alloc4 hv9;unfold aZ at hv9;rw [←hv9];clear hHeld hv9 hQv3;refine hK.out _ _ (hQv9.cells HX.out) (fun hHeld=>?_);clear hK;refine wpAnyH_ready (rs:=[9,11]) (by kernel_rfl) (by simp) ?_;refine AllReadyH.cons rfl (fun K hK=>?_) (AllReadyH.cons rfl (fun K hK=>?_) AllReadyH.nil)
      ·go_simp
       go_at_call 20
       refine (hQv9.see2 HX.out _).mono ?_;rintro en v10 ⟨Ag,cg,rfl,hQv10⟩;unfold eC;clear hHeld hQv9;refine hK.out _ _ (hQv10.cells HX.out) (fun hHeld=>?_);clear hK;refine wpAnyH_ready (rs:=[11]) (by kernel_rfl) (by simp) (.cons rfl (fun K hK=>?_) .nil);go_simp
       obtain⟨v11,hv11⟩:=words.nm (aZ v10);have hQv11:=hQv10.alloc5 hv11;unfold aZ at hv11;rw [←hv11];clear hHeld hv11 hQv10;refine hK.out _ _ (hQv11.cells HX.out) (fun hHeld=>?_);clear hK;obtain⟨y0,y1,y2,y3,y4,y5,y6,z0,z1,z2,z3,z4,z5,z6⟩:=(hQv11.b4 _ rfl).all;obtain⟨V8,hV⟩:=words.nm (s7 v11 v3.heap.size Af cf);have HP:=hid (hQv11.put4 HX.out Af cf V8 hV);unfold s7 at hV;refine wpAnyH_ready (rs:=[12]) (by kernel_rfl) (by simp) (.cons rfl (fun K hK=>?_) .nil);go_simp
       rw [←hV];clear hHeld hV hQv11 y0 y1 y2 y3 y4 y5 y6 z0 z1 z2 z3 z4 z5 z6;refine hK.out _ _ HP.out.1 (fun hHeld=>?_);clear hK;obtain⟨y0,y1,y2,y3,y4,y5,y6,z0,z1,z2,z3,z4,z5,z6⟩:=HP.out.2.1.all;obtain⟨V9,hV⟩:=words.nm (s7 V8 v10.heap.size Ag cg);have HP9:=hid (HP.out.2.2 Ag cg V9 hV);unfold s7 at hV;refine wpAnyH_ready (rs:=[13]) (by kernel_rfl) (by simp) (.cons rfl (fun K hK=>?_) .nil);go_simp
       rw [←hV];clear hHeld hV HP y0 y1 y2 y3 y4 y5 y6 z0 z1 z2 z3 z4 z5 z6;refine hK.out _ _ HP9.out.1 (fun hHeld=>?_);clear hK;refine wpAnyH_done (by kernel_rfl) ?_ _;clear hHeld;go_wp2_with fail
       go_meet
       case rel=>exact⟨_,_,rfl,rfl,hid HP9.out.2⟩
      ·go_simp
       obtain⟨v12,hv12⟩:=words.nm (aZ v9);have hQv12:=hQv9.alloc5 hv12;unfold aZ at hv12;rw [←hv12];clear hHeld hv12 hQv9;refine hK.out _ _ (hQv12.cells HX.out) (fun hHeld=>?_);clear hK;refine wpAnyH_ready (rs:=[9]) (by kernel_rfl) (by simp) (.cons rfl (fun K hK=>?_) .nil);go_simp
       go_at_call 20
       refine (hQv12.see2 HX.out _).mono ?_;rintro en v13 ⟨Ag,cg,rfl,hQv13⟩;unfold eC;clear hHeld hQv12;refine hK.out _ _ (hQv13.cells HX.out) (fun hHeld=>?_);clear hK;obtain⟨y0,y1,y2,y3,y4,y5,y6,z0,z1,z2,z3,z4,z5,z6⟩:=(hQv13.b4 _ rfl).all;obtain⟨V8,hV⟩:=words.nm (s7 v13 v3.heap.size Af cf);have HP:=hid (hQv13.put4 HX.out Af cf V8 hV);unfold s7 at hV;refine wpAnyH_ready (rs:=[12]) (by kernel_rfl) (by simp) (.cons rfl (fun K hK=>?_) .nil);go_simp
       rw [←hV];clear hHeld hV hQv13 y0 y1 y2 y3 y4 y5 y6 z0 z1 z2 z3 z4 z5 z6;refine hK.out _ _ HP.out.1 (fun hHeld=>?_);clear hK;obtain⟨y0,y1,y2,y3,y4,y5,y6,z0,z1,z2,z3,z4,z5,z6⟩:=HP.out.2.1.all;obtain⟨V9,hV⟩:=words.nm (s7 V8 v9.heap.size Ag cg);have HP9:=hid (HP.out.2.2 Ag cg V9 hV);unfold s7 at hV;refine wpAnyH_ready (rs:=[13]) (by kernel_rfl) (by simp) (.cons rfl (fun K hK=>?_) .nil);go_simp
       rw [←hV];clear hHeld hV HP y0 y1 y2 y3 y4 y5 y6 z0 z1 z2 z3 z4 z5 z6;refine hK.out _ _ HP9.out.1 (fun hHeld=>?_);clear hK;refine wpAnyH_done (by kernel_rfl) ?_ _;clear hHeld;go_wp2_with fail
       go_meet
       case rel=>exact⟨_,_,rfl,rfl,hid HP9.out.2⟩
     ·go_simp
      obtain⟨v14,hv14⟩:=words.nm (aZ v3);have hQv14:=hQv3.alloc5 hv14;unfold aZ at hv14;rw [←hv14];clear hHeld hv14 hQv3;refine hK.out _ _ (hQv14.cells HX.out) (fun hHeld=>?_);clear hK;refine wpAnyH_ready (rs:=[9,10]) (by kernel_rfl) (by simp) ?_;refine AllReadyH.cons rfl (fun K hK=>?_) (AllReadyH.cons rfl (fun K hK=>?_) AllReadyH.nil)
      ·go_simp
       go_at_call 20
       refine (hQv14.see2 HX.out _).mono ?_;rintro en v15 ⟨Ag,cg,rfl,hQv15⟩;unfold eC;clear hHeld hQv14;refine hK.out _ _ (hQv15.cells HX.out) (fun hHeld=>?_);clear hK;refine wpAnyH_ready (rs:=[10]) (by kernel_rfl) (by simp) (.cons rfl (fun K hK=>?_) .nil);go_simp
       obtain⟨v16,hv16⟩:=words.nm (aZ v15);have hQv16:=hQv15.alloc4 hv16;unfold aZ at hv16;rw [←hv16];clear hHeld hv16 hQv15;refine hK.out _ _ (hQv16.cells HX.out) (fun hHeld=>?_);clear hK;obtain⟨y0,y1,y2,y3,y4,y5,y6,z0,z1,z2,z3,z4,z5,z6⟩:=(hQv16.b4 _ rfl).all;obtain⟨V8,hV⟩:=words.nm (s7 v16 v15.heap.size Af cf);have HP:=hid (hQv16.put4 HX.out Af cf V8 hV);unfold s7 at hV;refine wpAnyH_ready (rs:=[12]) (by kernel_rfl) (by simp) (.cons rfl (fun K hK=>?_) .nil);go_simp
       rw [←hV];clear hHeld hV hQv16 y0 y1 y2 y3 y4 y5 y6 z0 z1 z2 z3 z4 z5 z6;refine hK.out _ _ HP.out.1 (fun hHeld=>?_);clear hK;obtain⟨y0,y1,y2,y3,y4,y5,y6,z0,z1,z2,z3,z4,z5,z6⟩:=HP.out.2.1.all;obtain⟨V9,hV⟩:=words.nm (s7 V8 v3.heap.size Ag cg);have HP9:=hid (HP.out.2.2 Ag cg V9 hV);unfold s7 at hV;refine wpAnyH_ready (rs:=[13]) (by kernel_rfl) (by simp) (.cons rfl (fun K hK=>?_) .nil);go_simp
       rw [←hV];clear hHeld hV HP y0 y1 y2 y3 y4 y5 y6 z0 z1 z2 z3 z4 z5 z6;refine hK.out _ _ HP9.out.1 (fun hHeld=>?_);clear hK;refine wpAnyH_done (by kernel_rfl) ?_ _;clear hHeld;go_wp2_with fail
       go_meet
       case rel=>exact⟨_,_,rfl,rfl,hid HP9.out.2⟩
      ·go_simp
       obtain⟨v17,hv17⟩:=words.nm (aZ v14);have hQv17:=hQv14.alloc4 hv17;unfold aZ at hv17;rw [←hv17];clear hHeld hv17 hQv14;refine hK.out _ _ (hQv17.cells HX.out) (fun hHeld=>?_);clear hK;refine wpAnyH_ready (rs:=[9]) (by kernel_rfl) (by simp) (.cons rfl (fun K hK=>?_) .nil);go_simp
       go_at_call 20
       refine (hQv17.see2 HX.out _).mono ?_;rintro en v18 ⟨Ag,cg,rfl,hQv18⟩;unfold eC;clear hHeld hQv17;refine hK.out _ _ (hQv18.cells HX.out) (fun hHeld=>?_);clear hK;obtain⟨y0,y1,y2,y3,y4,y5,y6,z0,z1,z2,z3,z4,z5,z6⟩:=(hQv18.b4 _ rfl).all;obtain⟨V8,hV⟩:=words.nm (s7 v18 v14.heap.size Af cf);have HP:=hid (hQv18.put4 HX.out Af cf V8 hV);unfold s7 at hV;refine wpAnyH_ready (rs:=[12]) (by kernel_rfl) (by simp) (.cons rfl (fun K hK=>?_) .nil);go_simp
       rw [←hV];clear hHeld hV hQv18 y0 y1 y2 y3 y4 y5 y6 z0 z1 z2 z3 z4 z5 z6;refine hK.out _ _ HP.out.1 (fun hHeld=>?_);clear hK;obtain⟨y0,y1,y2,y3,y4,y5,y6,z0,z1,z2,z3,z4,z5,z6⟩:=HP.out.2.1.all;obtain⟨V9,hV⟩:=words.nm (s7 V8 v3.heap.size Ag cg);have HP9:=hid (HP.out.2.2 Ag cg V9 hV);unfold s7 at hV;refine wpAnyH_ready (rs:=[13]) (by kernel_rfl) (by simp) (.cons rfl (fun K hK=>?_) .nil);go_simp
       rw [←hV];clear hHeld hV HP y0 y1 y2 y3 y4 y5 y6 z0 z1 z2 z3 z4 z5 z6;refine hK.out _ _ HP9.out.1 (fun hHeld=>?_);clear hK;refine wpAnyH_done (by kernel_rfl) ?_ _;clear hHeld;go_wp2_with fail
       go_meet
       case rel=>exact⟨_,_,rfl,rfl,hid HP9.out.2⟩
    ·go_simp
     obtain⟨v19,hv19⟩:=words.nm (aZ v2);have hQv19:=hQv2.alloc4 hv19;unfold aZ at hv19;rw [←hv19];clear hHeld hv19 hQv2;refine hK.out _ _ (hQv19.cells HX.out) (fun hHeld=>?_);clear hK;refine wpAnyH_ready (rs:=[8,11]) (by kernel_rfl) (by simp) ?_;refine AllReadyH.cons rfl (fun K hK=>?_) (AllReadyH.cons rfl (fun K hK=>?_) AllReadyH.nil)
     ·go_simp
      go_at_call 21
      refine (hQv19.root HX.out).mono ?_;rintro en v20 ⟨Aq,cq,rfl,hQv20⟩;clear hHeld hQv19;refine hK.out _ _ (hQv20.cells HX.out) (fun hHeld=>?_);clear hK;refine wpAnyH_ready (rs:=[9,11]) (by kernel_rfl) (by simp) ?_;refine AllReadyH.cons rfl (fun K hK=>?_) (AllReadyH.cons rfl (fun K hK=>?_) AllReadyH.nil)
      ·go_simp
       go_at_call 20
       refine (hQv20.see2 HX.out _).mono ?_;rintro en v21 ⟨Ag,cg,rfl,hQv21⟩;unfold eC;clear hHeld hQv20;refine hK.out _ _ (hQv21.cells HX.out) (fun hHeld=>?_);clear hK;refine wpAnyH_ready (rs:=[11]) (by kernel_rfl) (by simp) (.cons rfl (fun K hK=>?_) .nil);go_simp
       obtain⟨v22,hv22⟩:=words.nm (aZ v21);have hQv22:=hQv21.alloc5 hv22;unfold aZ at hv22;rw [←hv22];clear hHeld hv22 hQv21;refine hK.out _ _ (hQv22.cells HX.out) (fun hHeld=>?_);clear hK;obtain⟨y0,y1,y2,y3,y4,y5,y6,z0,z1,z2,z3,z4,z5,z6⟩:=(hQv22.b4 _ rfl).all;obtain⟨V8,hV⟩:=words.nm (s7 v22 v2.heap.size Af cf);have HP:=hid (hQv22.put4 HX.out Af cf V8 hV);unfold s7 at hV;refine wpAnyH_ready (rs:=[12]) (by kernel_rfl) (by simp) (.cons rfl (fun K hK=>?_) .nil);go_simp
       rw [←hV];clear hHeld hV hQv22 y0 y1 y2 y3 y4 y5 y6 z0 z1 z2 z3 z4 z5 z6;refine hK.out _ _ HP.out.1 (fun hHeld=>?_);clear hK;obtain⟨y0,y1,y2,y3,y4,y5,y6,z0,z1,z2,z3,z4,z5,z6⟩:=HP.out.2.1.all;obtain⟨V9,hV⟩:=words.nm (s7 V8 v21.heap.size Ag cg);have HP9:=hid (HP.out.2.2 Ag cg V9 hV);unfold s7 at hV;refine wpAnyH_ready (rs:=[13]) (by kernel_rfl) (by simp) (.cons rfl (fun K hK=>?_) .nil);go_simp
       rw [←hV];clear hHeld hV HP y0 y1 y2 y3 y4 y5 y6 z0 z1 z2 z3 z4 z5 z6;refine hK.out _ _ HP9.out.1 (fun hHeld=>?_);clear hK;refine wpAnyH_done (by kernel_rfl) ?_ _;clear hHeld;go_wp2_with fail
       go_meet
       case rel=>exact⟨_,_,rfl,rfl,hid HP9.out.2⟩
      ·go_simp
       obtain⟨v23,hv23⟩:=words.nm (aZ v20);have hQv23:=hQv20.alloc5 hv23;unfold aZ at hv23;rw [←hv23];clear hHeld hv23 hQv20;refine hK.out _ _ (hQv23.cells HX.out) (fun hHeld=>?_);clear hK;refine wpAnyH_ready (rs:=[9]) (by kernel_rfl) (by simp) (.cons rfl (fun K hK=>?_) .nil);go_simp
       go_at_call 20
       refine (hQv23.see2 HX.out _).mono ?_;rintro en v24 ⟨Ag,cg,rfl,hQv24⟩;unfold eC;clear hHeld hQv23;refine hK.out _ _ (hQv24.cells HX.out) (fun hHeld=>?_);clear hK;obtain⟨y0,y1,y2,y3,y4,y5,y6,z0,z1,z2,z3,z4,z5,z6⟩:=(hQv24.b4 _ rfl).all;obtain⟨V8,hV⟩:=words.nm (s7 v24 v2.heap.size Af cf);have HP:=hid (hQv24.put4 HX.out Af cf V8 hV);unfold s7 at hV;refine wpAnyH_ready (rs:=[12]) (by kernel_rfl) (by simp) (.cons rfl (fun K hK=>?_) .nil);go_simp
       rw [←hV];clear hHeld hV hQv24 y0 y1 y2 y3 y4 y5 y6 z0 z1 z2 z3 z4 z5 z6;refine hK.out _ _ HP.out.1 (fun hHeld=>?_);clear hK;obtain⟨y0,y1,y2,y3,y4,y5,y6,z0,z1,z2,z3,z4,z5,z6⟩:=HP.out.2.1.all;obtain⟨V9,hV⟩:=words.nm (s7 V8 v20.heap.size Ag cg);have HP9:=hid (HP.out.2.2 Ag cg V9 hV);unfold s7 at hV;refine wpAnyH_ready (rs:=[13]) (by kernel_rfl) (by simp) (.cons rfl (fun K hK=>?_) .nil);go_simp
       rw [←hV];clear hHeld hV HP y0 y1 y2 y3 y4 y5 y6 z0 z1 z2 z3 z4 z5 z6;refine hK.out _ _ HP9.out.1 (fun hHeld=>?_);clear hK;refine wpAnyH_done (by kernel_rfl) ?_ _;clear hHeld;go_wp2_with fail
       go_meet
       case rel=>exact⟨_,_,rfl,rfl,hid HP9.out.2⟩
     ·go_simp
      obtain⟨v25,hv25⟩:=words.nm (aZ v19);have hQv25:=hQv19.alloc5 hv25;unfold aZ at hv25;rw [←hv25];clear hHeld hv25 hQv19;refine hK.out _ _ (hQv25.cells HX.out) (fun hHeld=>?_);clear hK;refine wpAnyH_ready (rs:=[8]) (by kernel_rfl) (by simp) (.cons rfl (fun K hK=>?_) .nil);go_simp
      go_at_call 21
      refine (hQv25.root HX.out).mono ?_;rintro en v26 ⟨Aq,cq,rfl,hQv26⟩;clear hHeld hQv25;refine hK.out _ _ (hQv26.cells HX.out) (fun hHeld=>?_);clear hK;refine wpAnyH_ready (rs:=[9]) (by kernel_rfl) (by simp) (.cons rfl (fun K hK=>?_) .nil);go_simp
      go_at_call 20
      refine (hQv26.see2 HX.out _).mono ?_;rintro en v27 ⟨Ag,cg,rfl,hQv27⟩;unfold eC;clear hHeld hQv26;refine hK.out _ _ (hQv27.cells HX.out) (fun hHeld=>?_);clear hK;obtain⟨y0,y1,y2,y3,y4,y5,y6,z0,z1,z2,z3,z4,z5,z6⟩:=(hQv27.b4 _ rfl).all;obtain⟨V8,hV⟩:=words.nm (s7 v27 v2.heap.size Af cf);have HP:=hid (hQv27.put4 HX.out Af cf V8 hV);unfold s7 at hV;refine wpAnyH_ready (rs:=[12]) (by kernel_rfl) (by simp) (.cons rfl (fun K hK=>?_) .nil);go_simp
      rw [←hV];clear hHeld hV hQv27 y0 y1 y2 y3 y4 y5 y6 z0 z1 z2 z3 z4 z5 z6;refine hK.out _ _ HP.out.1 (fun hHeld=>?_);clear hK;obtain⟨y0,y1,y2,y3,y4,y5,y6,z0,z1,z2,z3,z4,z5,z6⟩:=HP.out.2.1.all;obtain⟨V9,hV⟩:=words.nm (s7 V8 v19.heap.size Ag cg);have HP9:=hid (HP.out.2.2 Ag cg V9 hV);unfold s7 at hV;refine wpAnyH_ready (rs:=[13]) (by kernel_rfl) (by simp) (.cons rfl (fun K hK=>?_) .nil);go_simp
      rw [←hV];clear hHeld hV HP y0 y1 y2 y3 y4 y5 y6 z0 z1 z2 z3 z4 z5 z6;refine hK.out _ _ HP9.out.1 (fun hHeld=>?_);clear hK;refine wpAnyH_done (by kernel_rfl) ?_ _;clear hHeld;go_wp2_with fail
      go_meet
      case rel=>exact⟨_,_,rfl,rfl,hid HP9.out.2⟩
    ·go_simp
     obtain⟨v28,hv28⟩:=words.nm (aZ v2);have hQv28:=hQv2.alloc5 hv28;unfold aZ at hv28;rw [←hv28];clear hHeld hv28 hQv2;refine hK.out _ _ (hQv28.cells HX.out) (fun hHeld=>?_);clear hK;refine wpAnyH_ready (rs:=[8,10]) (by kernel_rfl) (by simp) ?_;refine AllReadyH.cons rfl (fun K hK=>?_) (AllReadyH.cons rfl (fun K hK=>?_) AllReadyH.nil)
     ·go_simp
      go_at_call 21
      refine (hQv28.root HX.out).mono ?_;rintro en v29 ⟨Aq,cq,rfl,hQv29⟩;clear hHeld hQv28;refine hK.out _ _ (hQv29.cells HX.out) (fun hHeld=>?_);clear hK;refine wpAnyH_ready (rs:=[9,10]) (by kernel_rfl) (by simp) ?_;refine AllReadyH.cons rfl (fun K hK=>?_) (AllReadyH.cons rfl (fun K hK=>?_) AllReadyH.nil)
      ·go_simp
       go_at_call 20
       refine (hQv29.see2 HX.out _).mono ?_;rintro en v30 ⟨Ag,cg,rfl,hQv30⟩;unfold eC;clear hHeld hQv29;refine hK.out _ _ (hQv30.cells HX.out) (fun hHeld=>?_);clear hK;refine wpAnyH_ready (rs:=[10]) (by kernel_rfl) (by simp) (.cons rfl (fun K hK=>?_) .nil);go_simp
       obtain⟨v31,hv31⟩:=words.nm (aZ v30);have hQv31:=hQv30.alloc4 hv31;unfold aZ at hv31;rw [←hv31];clear hHeld hv31 hQv30;refine hK.out _ _ (hQv31.cells HX.out) (fun hHeld=>?_);clear hK;obtain⟨y0,y1,y2,y3,y4,y5,y6,z0,z1,z2,z3,z4,z5,z6⟩:=(hQv31.b4 _ rfl).all;obtain⟨V8,hV⟩:=words.nm (s7 v31 v30.heap.size Af cf);have HP:=hid (hQv31.put4 HX.out Af cf V8 hV);unfold s7 at hV;refine wpAnyH_ready (rs:=[12]) (by kernel_rfl) (by simp) (.cons rfl (fun K hK=>?_) .nil);go_simp
       rw [←hV];clear hHeld hV hQv31 y0 y1 y2 y3 y4 y5 y6 z0 z1 z2 z3 z4 z5 z6;refine hK.out _ _ HP.out.1 (fun hHeld=>?_);clear hK;obtain⟨y0,y1,y2,y3,y4,y5,y6,z0,z1,z2,z3,z4,z5,z6⟩:=HP.out.2.1.all;obtain⟨V9,hV⟩:=words.nm (s7 V8 v2.heap.size Ag cg);have HP9:=hid (HP.out.2.2 Ag cg V9 hV);unfold s7 at hV;refine wpAnyH_ready (rs:=[13]) (by kernel_rfl) (by simp) (.cons rfl (fun K hK=>?_) .nil);go_simp
       rw [←hV];clear hHeld hV HP y0 y1 y2 y3 y4 y5 y6 z0 z1 z2 z3 z4 z5 z6;refine hK.out _ _ HP9.out.1 (fun hHeld=>?_);clear hK;refine wpAnyH_done (by kernel_rfl) ?_ _;clear hHeld;go_wp2_with fail
       go_meet
       case rel=>exact⟨_,_,rfl,rfl,hid HP9.out.2⟩
      ·go_simp
       obtain⟨v32,hv32⟩:=words.nm (aZ v29);have hQv32:=hQv29.alloc4 hv32;unfold aZ at hv32;rw [←hv32];clear hHeld hv32 hQv29;refine hK.out _ _ (hQv32.cells HX.out) (fun hHeld=>?_);clear hK;refine wpAnyH_ready (rs:=[9]) (by kernel_rfl) (by simp) (.cons rfl (fun K hK=>?_) .nil);go_simp
       go_at_call 20
       refine (hQv32.see2 HX.out _).mono ?_;rintro en v33 ⟨Ag,cg,rfl,hQv33⟩;unfold eC;clear hHeld hQv32;refine hK.out _ _ (hQv33.cells HX.out) (fun hHeld=>?_);clear hK;obtain⟨y0,y1,y2,y3,y4,y5,y6,z0,z1,z2,z3,z4,z5,z6⟩:=(hQv33.b4 _ rfl).all;obtain⟨V8,hV⟩:=words.nm (s7 v33 v29.heap.size Af cf);have HP:=hid (hQv33.put4 HX.out Af cf V8 hV);unfold s7 at hV;refine wpAnyH_ready (rs:=[12]) (by kernel_rfl) (by simp) (.cons rfl (fun K hK=>?_) .nil);go_simp
       rw [←hV];clear hHeld hV hQv33 y0 y1 y2 y3 y4 y5 y6 z0 z1 z2 z3 z4 z5 z6;refine hK.out _ _ HP.out.1 (fun hHeld=>?_);clear hK;obtain⟨y0,y1,y2,y3,y4,y5,y6,z0,z1,z2,z3,z4,z5,z6⟩:=HP.out.2.1.all;obtain⟨V9,hV⟩:=words.nm (s7 V8 v2.heap.size Ag cg);have HP9:=hid (HP.out.2.2 Ag cg V9 hV);unfold s7 at hV;refine wpAnyH_ready (rs:=[13]) (by kernel_rfl) (by simp) (.cons rfl (fun K hK=>?_) .nil);go_simp
       rw [←hV];clear hHeld hV HP y0 y1 y2 y3 y4 y5 y6 z0 z1 z2 z3 z4 z5 z6;refine hK.out _ _ HP9.out.1 (fun hHeld=>?_);clear hK;refine wpAnyH_done (by kernel_rfl) ?_ _;clear hHeld;go_wp2_with fail
       go_meet
       case rel=>exact⟨_,_,rfl,rfl,hid HP9.out.2⟩
     ·go_simp
      obtain⟨v34,hv34⟩:=words.nm (aZ v28);have hQv34:=hQv28.alloc4 hv34;unfold aZ at hv34;rw [←hv34];clear hHeld hv34 hQv28;refine hK.out _ _ (hQv34.cells HX.out) (fun hHeld=>?_);clear hK;refine wpAnyH_ready (rs:=[8]) (by kernel_rfl) (by simp) (.cons rfl (fun K hK=>?_) .nil);go_simp
      go_at_call 21
      refine (hQv34.root HX.out).mono ?_;rintro en v35 ⟨Aq,cq,rfl,hQv35⟩;clear hHeld hQv34;refine hK.out _ _ (hQv35.cells HX.out) (fun hHeld=>?_);clear hK;refine wpAnyH_ready (rs:=[9]) (by kernel_rfl) (by simp) (.cons rfl (fun K hK=>?_) .nil);go_simp
      go_at_call 20
      refine (hQv35.see2 HX.out _).mono ?_;rintro en v36 ⟨Ag,cg,rfl,hQv36⟩;unfold eC;clear hHeld hQv35;refine hK.out _ _ (hQv36.cells HX.out) (fun hHeld=>?_);clear hK;obtain⟨y0,y1,y2,y3,y4,y5,y6,z0,z1,z2,z3,z4,z5,z6⟩:=(hQv36.b4 _ rfl).all;obtain⟨V8,hV⟩:=words.nm (s7 v36 v28.heap.size Af cf);have HP:=hid (hQv36.put4 HX.out Af cf V8 hV);unfold s7 at hV;refine wpAnyH_ready (rs:=[12]) (by kernel_rfl) (by simp) (.cons rfl (fun K hK=>?_) .nil);go_simp
      rw [←hV];clear hHeld hV hQv36 y0 y1 y2 y3 y4 y5 y6 z0 z1 z2 z3 z4 z5 z6;refine hK.out _ _ HP.out.1 (fun hHeld=>?_);clear hK;obtain⟨y0,y1,y2,y3,y4,y5,y6,z0,z1,z2,z3,z4,z5,z6⟩:=HP.out.2.1.all;obtain⟨V9,hV⟩:=words.nm (s7 V8 v2.heap.size Ag cg);have HP9:=hid (HP.out.2.2 Ag cg V9 hV);unfold s7 at hV;refine wpAnyH_ready (rs:=[13]) (by kernel_rfl) (by simp) (.cons rfl (fun K hK=>?_) .nil);go_simp
      rw [←hV];clear hHeld hV HP y0 y1 y2 y3 y4 y5 y6 z0 z1 z2 z3 z4 z5 z6;refine hK.out _ _ HP9.out.1 (fun hHeld=>?_);clear hK;refine wpAnyH_done (by kernel_rfl) ?_ _;clear hHeld;go_wp2_with fail
      go_meet
      case rel=>exact⟨_,_,rfl,rfl,hid HP9.out.2⟩
   ·go_simp
    obtain⟨v37,hv37⟩:=words.nm (aZ v1);have hQv37:=hQv1.alloc4 hv37;unfold aZ at hv37;rw [←hv37];clear hHeld hv37 hQv1;refine hK.out _ _ (hQv37.cells HX.out) (fun hHeld=>?_);clear hK;refine wpAnyH_ready (rs:=[4,11]) (by kernel_rfl) (by simp) ?_;refine AllReadyH.cons rfl (fun K hK=>?_) (AllReadyH.cons rfl (fun K hK=>?_) AllReadyH.nil)
    ·go_simp
     go_at_call 20
     refine (hQv37.see1 HX.out _).mono ?_;rintro en v38 ⟨Af,cf,rfl,hQv38⟩;unfold eC;clear hHeld hQv37;refine hK.out _ _ (hQv38.cells HX.out) (fun hHeld=>?_);clear hK;refine wpAnyH_ready (rs:=[8,11]) (by kernel_rfl) (by simp) ?_;refine AllReadyH.cons rfl (fun K hK=>?_) (AllReadyH.cons rfl (fun K hK=>?_) AllReadyH.nil)
     ·go_simp
      go_at_call 21
      refine (hQv38.root HX.out).mono ?_;rintro en v39 ⟨Aq,cq,rfl,hQv39⟩;clear hHeld hQv38;refine hK.out _ _ (hQv39.cells HX.out) (fun hHeld=>?_);clear hK;refine wpAnyH_ready (rs:=[9,11]) (by kernel_rfl) (by simp) ?_;refine AllReadyH.cons rfl (fun K hK=>?_) (AllReadyH.cons rfl (fun K hK=>?_) AllReadyH.nil)
      ·go_simp
       go_at_call 20
       refine (hQv39.see2 HX.out _).mono ?_;rintro en v40 ⟨Ag,cg,rfl,hQv40⟩;unfold eC;clear hHeld hQv39;refine hK.out _ _ (hQv40.cells HX.out) (fun hHeld=>?_);clear hK;refine wpAnyH_ready (rs:=[11]) (by kernel_rfl) (by simp) (.cons rfl (fun K hK=>?_) .nil);go_simp
       obtain⟨v41,hv41⟩:=words.nm (aZ v40);have hQv41:=hQv40.alloc5 hv41;unfold aZ at hv41;rw [←hv41];clear hHeld hv41 hQv40;refine hK.out _ _ (hQv41.cells HX.out) (fun hHeld=>?_);clear hK;obtain⟨y0,y1,y2,y3,y4,y5,y6,z0,z1,z2,z3,z4,z5,z6⟩:=(hQv41.b4 _ rfl).all;obtain⟨V8,hV⟩:=words.nm (s7 v41 v1.heap.size Af cf);have HP:=hid (hQv41.put4 HX.out Af cf V8 hV);unfold s7 at hV;refine wpAnyH_ready (rs:=[12]) (by kernel_rfl) (by simp) (.cons rfl (fun K hK=>?_) .nil);go_simp
       rw [←hV];clear hHeld hV hQv41 y0 y1 y2 y3 y4 y5 y6 z0 z1 z2 z3 z4 z5 z6;refine hK.out _ _ HP.out.1 (fun hHeld=>?_);clear hK;obtain⟨y0,y1,y2,y3,y4,y5,y6,z0,z1,z2,z3,z4,z5,z6⟩:=HP.out.2.1.all;obtain⟨V9,hV⟩:=words.nm (s7 V8 v40.heap.size Ag cg);have HP9:=hid (HP.out.2.2 Ag cg V9 hV);unfold s7 at hV;refine wpAnyH_ready (rs:=[13]) (by kernel_rfl) (by simp) (.cons rfl (fun K hK=>?_) .nil);go_simp
       rw [←hV];clear hHeld hV HP y0 y1 y2 y3 y4 y5 y6 z0 z1 z2 z3 z4 z5 z6;refine hK.out _ _ HP9.out.1 (fun hHeld=>?_);clear hK;refine wpAnyH_done (by kernel_rfl) ?_ _;clear hHeld;go_wp2_with fail
       go_meet
       case rel=>exact⟨_,_,rfl,rfl,hid HP9.out.2⟩
      ·go_simp
       obtain⟨v42,hv42⟩:=words.nm (aZ v39);have hQv42:=hQv39.alloc5 hv42;unfold aZ at hv42;rw [←hv42];clear hHeld hv42 hQv39;refine hK.out _ _ (hQv42.cells HX.out) (fun hHeld=>?_);clear hK;refine wpAnyH_ready (rs:=[9]) (by kernel_rfl) (by simp) (.cons rfl (fun K hK=>?_) .nil);go_simp
       go_at_call 20
       refine (hQv42.see2 HX.out _).mono ?_;rintro en v43 ⟨Ag,cg,rfl,hQv43⟩;unfold eC;clear hHeld hQv42;refine hK.out _ _ (hQv43.cells HX.out) (fun hHeld=>?_);clear hK;obtain⟨y0,y1,y2,y3,y4,y5,y6,z0,z1,z2,z3,z4,z5,z6⟩:=(hQv43.b4 _ rfl).all;obtain⟨V8,hV⟩:=words.nm (s7 v43 v1.heap.size Af cf);have HP:=hid (hQv43.put4 HX.out Af cf V8 hV);unfold s7 at hV;refine wpAnyH_ready (rs:=[12]) (by kernel_rfl) (by simp) (.cons rfl (fun K hK=>?_) .nil);go_simp
       rw [←hV];clear hHeld hV hQv43 y0 y1 y2 y3 y4 y5 y6 z0 z1 z2 z3 z4 z5 z6;refine hK.out _ _ HP.out.1 (fun hHeld=>?_);clear hK;obtain⟨y0,y1,y2,y3,y4,y5,y6,z0,z1,z2,z3,z4,z5,z6⟩:=HP.out.2.1.all;obtain⟨V9,hV⟩:=words.nm (s7 V8 v39.heap.size Ag cg);have HP9:=hid (HP.out.2.2 Ag cg V9 hV);unfold s7 at hV;refine wpAnyH_ready (rs:=[13]) (by kernel_rfl) (by simp) (.cons rfl (fun K hK=>?_) .nil);go_simp
       rw [←hV];clear hHeld hV HP y0 y1 y2 y3 y4 y5 y6 z0 z1 z2 z3 z4 z5 z6;refine hK.out _ _ HP9.out.1 (fun hHeld=>?_);clear hK;refine wpAnyH_done (by kernel_rfl) ?_ _;clear hHeld;go_wp2_with fail
       go_meet
       case rel=>exact⟨_,_,rfl,rfl,hid HP9.out.2⟩
     ·go_simp
      obtain⟨v44,hv44⟩:=words.nm (aZ v38);have hQv44:=hQv38.alloc5 hv44;unfold aZ at hv44;rw [←hv44];clear hHeld hv44 hQv38;refine hK.out _ _ (hQv44.cells HX.out) (fun hHeld=>?_);clear hK;refine wpAnyH_ready (rs:=[8]) (by kernel_rfl) (by simp) (.cons rfl (fun K hK=>?_) .nil);go_simp
      go_at_call 21
      refine (hQv44.root HX.out).mono ?_;rintro en v45 ⟨Aq,cq,rfl,hQv45⟩;clear hHeld hQv44;refine hK.out _ _ (hQv45.cells HX.out) (fun hHeld=>?_);clear hK;refine wpAnyH_ready (rs:=[9]) (by kernel_rfl) (by simp) (.cons rfl (fun K hK=>?_) .nil);go_simp
      go_at_call 20
      refine (hQv45.see2 HX.out _).mono ?_;rintro en v46 ⟨Ag,cg,rfl,hQv46⟩;unfold eC;clear hHeld hQv45;refine hK.out _ _ (hQv46.cells HX.out) (fun hHeld=>?_);clear hK;obtain⟨y0,y1,y2,y3,y4,y5,y6,z0,z1,z2,z3,z4,z5,z6⟩:=(hQv46.b4 _ rfl).all;obtain⟨V8,hV⟩:=words.nm (s7 v46 v1.heap.size Af cf);have HP:=hid (hQv46.put4 HX.out Af cf V8 hV);unfold s7 at hV;refine wpAnyH_ready (rs:=[12]) (by kernel_rfl) (by simp) (.cons rfl (fun K hK=>?_) .nil);go_simp
      rw [←hV];clear hHeld hV hQv46 y0 y1 y2 y3 y4 y5 y6 z0 z1 z2 z3 z4 z5 z6;refine hK.out _ _ HP.out.1 (fun hHeld=>?_);clear hK;obtain⟨y0,y1,y2,y3,y4,y5,y6,z0,z1,z2,z3,z4,z5,z6⟩:=HP.out.2.1.all;obtain⟨V9,hV⟩:=words.nm (s7 V8 v38.heap.size Ag cg);have HP9:=hid (HP.out.2.2 Ag cg V9 hV);unfold s7 at hV;refine wpAnyH_ready (rs:=[13]) (by kernel_rfl) (by simp) (.cons rfl (fun K hK=>?_) .nil);go_simp
      rw [←hV];clear hHeld hV HP y0 y1 y2 y3 y4 y5 y6 z0 z1 z2 z3 z4 z5 z6;refine hK.out _ _ HP9.out.1 (fun hHeld=>?_);clear hK;refine wpAnyH_done (by kernel_rfl) ?_ _;clear hHeld;go_wp2_with fail
      go_meet
      case rel=>exact⟨_,_,rfl,rfl,hid HP9.out.2⟩
    ·go_simp
     obtain⟨v47,hv47⟩:=words.nm (aZ v37);have hQv47:=hQv37.alloc5 hv47;unfold aZ at hv47;rw [←hv47];clear hHeld hv47 hQv37;refine hK.out _ _ (hQv47.cells HX.out) (fun hHeld=>?_);clear hK;refine wpAnyH_ready (rs:=[4]) (by kernel_rfl) (by simp) (.cons rfl (fun K hK=>?_) .nil);go_simp
     go_at_call 20
     refine (hQv47.see1 HX.out _).mono ?_;rintro en v48 ⟨Af,cf,rfl,hQv48⟩;unfold eC;clear hHeld hQv47;refine hK.out _ _ (hQv48.cells HX.out) (fun hHeld=>?_);clear hK;refine wpAnyH_ready (rs:=[8]) (by kernel_rfl) (by simp) (.cons rfl (fun K hK=>?_) .nil);go_simp
     go_at_call 21
     refine (hQv48.root HX.out).mono ?_;rintro en v49 ⟨Aq,cq,rfl,hQv49⟩;clear hHeld hQv48;refine hK.out _ _ (hQv49.cells HX.out) (fun hHeld=>?_);clear hK;refine wpAnyH_ready (rs:=[9]) (by kernel_rfl) (by simp) (.cons rfl (fun K hK=>?_) .nil);go_simp
     go_at_call 20
     refine (hQv49.see2 HX.out _).mono ?_;rintro en v50 ⟨Ag,cg,rfl,hQv50⟩;unfold eC;clear hHeld hQv49;refine hK.out _ _ (hQv50.cells HX.out) (fun hHeld=>?_);clear hK;obtain⟨y0,y1,y2,y3,y4,y5,y6,z0,z1,z2,z3,z4,z5,z6⟩:=(hQv50.b4 _ rfl).all;obtain⟨V8,hV⟩:=words.nm (s7 v50 v1.heap.size Af cf);have HP:=hid (hQv50.put4 HX.out Af cf V8 hV);unfold s7 at hV;refine wpAnyH_ready (rs:=[12]) (by kernel_rfl) (by simp) (.cons rfl (fun K hK=>?_) .nil);go_simp
     rw [←hV];clear hHeld hV hQv50 y0 y1 y2 y3 y4 y5 y6 z0 z1 z2 z3 z4 z5 z6;refine hK.out _ _ HP.out.1 (fun hHeld=>?_);clear hK;obtain⟨y0,y1,y2,y3,y4,y5,y6,z0,z1,z2,z3,z4,z5,z6⟩:=HP.out.2.1.all;obtain⟨V9,hV⟩:=words.nm (s7 V8 v37.heap.size Ag cg);have HP9:=hid (HP.out.2.2 Ag cg V9 hV);unfold s7 at hV;refine wpAnyH_ready (rs:=[13]) (by kernel_rfl) (by simp) (.cons rfl (fun K hK=>?_) .nil);go_simp
     rw [←hV];clear hHeld hV HP y0 y1 y2 y3 y4 y5 y6 z0 z1 z2 z3 z4 z5 z6;refine hK.out _ _ HP9.out.1 (fun hHeld=>?_);clear hK;refine wpAnyH_done (by kernel_rfl) ?_ _;clear hHeld;go_wp2_with fail
     go_meet
     case rel=>exact⟨_,_,rfl,rfl,hid HP9.out.2⟩
   ·go_simp
    obtain⟨v51,hv51⟩:=words.nm (aZ v1);have hQv51:=hQv1.alloc5 hv51;unfold aZ at hv51;rw [←hv51];clear hHeld hv51 hQv1;refine hK.out _ _ (hQv51.cells HX.out) (fun hHeld=>?_);clear hK;refine wpAnyH_ready (rs:=[4,10]) (by kernel_rfl) (by simp) ?_;refine AllReadyH.cons rfl (fun K hK=>?_) (AllReadyH.cons rfl (fun K hK=>?_) AllReadyH.nil)
    ·go_simp
     go_at_call 20
     refine (hQv51.see1 HX.out _).mono ?_;rintro en v52 ⟨Af,cf,rfl,hQv52⟩;unfold eC;clear hHeld hQv51;refine hK.out _ _ (hQv52.cells HX.out) (fun hHeld=>?_);clear hK;refine wpAnyH_ready (rs:=[8,10]) (by kernel_rfl) (by simp) ?_;refine AllReadyH.cons rfl (fun K hK=>?_) (AllReadyH.cons rfl (fun K hK=>?_) AllReadyH.nil)
     ·go_simp
      go_at_call 21
      refine (hQv52.root HX.out).mono ?_;rintro en v53 ⟨Aq,cq,rfl,hQv53⟩;clear hHeld hQv52;refine hK.out _ _ (hQv53.cells HX.out) (fun hHeld=>?_);clear hK;refine wpAnyH_ready (rs:=[9,10]) (by kernel_rfl) (by simp) ?_;refine AllReadyH.cons rfl (fun K hK=>?_) (AllReadyH.cons rfl (fun K hK=>?_) AllReadyH.nil)
      ·go_simp
       go_at_call 20
       refine (hQv53.see2 HX.out _).mono ?_;rintro en v54 ⟨Ag,cg,rfl,hQv54⟩;unfold eC;clear hHeld hQv53;refine hK.out _ _ (hQv54.cells HX.out) (fun hHeld=>?_);clear hK;refine wpAnyH_ready (rs:=[10]) (by kernel_rfl) (by simp) (.cons rfl (fun K hK=>?_) .nil);go_simp
       obtain⟨v55,hv55⟩:=words.nm (aZ v54);have hQv55:=hQv54.alloc4 hv55;unfold aZ at hv55;rw [←hv55];clear hHeld hv55 hQv54;refine hK.out _ _ (hQv55.cells HX.out) (fun hHeld=>?_);clear hK;obtain⟨y0,y1,y2,y3,y4,y5,y6,z0,z1,z2,z3,z4,z5,z6⟩:=(hQv55.b4 _ rfl).all;obtain⟨V8,hV⟩:=words.nm (s7 v55 v54.heap.size Af cf);have HP:=hid (hQv55.put4 HX.out Af cf V8 hV);unfold s7 at hV;refine wpAnyH_ready (rs:=[12]) (by kernel_rfl) (by simp) (.cons rfl (fun K hK=>?_) .nil);go_simp
       rw [←hV];clear hHeld hV hQv55 y0 y1 y2 y3 y4 y5 y6 z0 z1 z2 z3 z4 z5 z6;refine hK.out _ _ HP.out.1 (fun hHeld=>?_);clear hK;obtain⟨y0,y1,y2,y3,y4,y5,y6,z0,z1,z2,z3,z4,z5,z6⟩:=HP.out.2.1.all;obtain⟨V9,hV⟩:=words.nm (s7 V8 v1.heap.size Ag cg);have HP9:=hid (HP.out.2.2 Ag cg V9 hV);unfold s7 at hV;refine wpAnyH_ready (rs:=[13]) (by kernel_rfl) (by simp) (.cons rfl (fun K hK=>?_) .nil);go_simp
       rw [←hV];clear hHeld hV HP y0 y1 y2 y3 y4 y5 y6 z0 z1 z2 z3 z4 z5 z6;refine hK.out _ _ HP9.out.1 (fun hHeld=>?_);clear hK;refine wpAnyH_done (by kernel_rfl) ?_ _;clear hHeld;go_wp2_with fail
       go_meet
       case rel=>exact⟨_,_,rfl,rfl,hid HP9.out.2⟩
      ·go_simp
       obtain⟨v56,hv56⟩:=words.nm (aZ v53);have hQv56:=hQv53.alloc4 hv56;unfold aZ at hv56;rw [←hv56];clear hHeld hv56 hQv53;refine hK.out _ _ (hQv56.cells HX.out) (fun hHeld=>?_);clear hK;refine wpAnyH_ready (rs:=[9]) (by kernel_rfl) (by simp) (.cons rfl (fun K hK=>?_) .nil);go_simp
       go_at_call 20
       refine (hQv56.see2 HX.out _).mono ?_;rintro en v57 ⟨Ag,cg,rfl,hQv57⟩;unfold eC;clear hHeld hQv56;refine hK.out _ _ (hQv57.cells HX.out) (fun hHeld=>?_);clear hK;obtain⟨y0,y1,y2,y3,y4,y5,y6,z0,z1,z2,z3,z4,z5,z6⟩:=(hQv57.b4 _ rfl).all;obtain⟨V8,hV⟩:=words.nm (s7 v57 v53.heap.size Af cf);have HP:=hid (hQv57.put4 HX.out Af cf V8 hV);unfold s7 at hV;refine wpAnyH_ready (rs:=[12]) (by kernel_rfl) (by simp) (.cons rfl (fun K hK=>?_) .nil);go_simp
       rw [←hV];clear hHeld hV hQv57 y0 y1 y2 y3 y4 y5 y6 z0 z1 z2 z3 z4 z5 z6;refine hK.out _ _ HP.out.1 (fun hHeld=>?_);clear hK;obtain⟨y0,y1,y2,y3,y4,y5,y6,z0,z1,z2,z3,z4,z5,z6⟩:=HP.out.2.1.all;obtain⟨V9,hV⟩:=words.nm (s7 V8 v1.heap.size Ag cg);have HP9:=hid (HP.out.2.2 Ag cg V9 hV);unfold s7 at hV;refine wpAnyH_ready (rs:=[13]) (by kernel_rfl) (by simp) (.cons rfl (fun K hK=>?_) .nil);go_simp
       rw [←hV];clear hHeld hV HP y0 y1 y2 y3 y4 y5 y6 z0 z1 z2 z3 z4 z5 z6;refine hK.out _ _ HP9.out.1 (fun hHeld=>?_);clear hK;refine wpAnyH_done (by kernel_rfl) ?_ _;clear hHeld;go_wp2_with fail
       go_meet
       case rel=>exact⟨_,_,rfl,rfl,hid HP9.out.2⟩
     ·go_simp
      obtain⟨v58,hv58⟩:=words.nm (aZ v52);have hQv58:=hQv52.alloc4 hv58;unfold aZ at hv58;rw [←hv58];clear hHeld hv58 hQv52;refine hK.out _ _ (hQv58.cells HX.out) (fun hHeld=>?_);clear hK;refine wpAnyH_ready (rs:=[8]) (by kernel_rfl) (by simp) (.cons rfl (fun K hK=>?_) .nil);go_simp
      go_at_call 21
      refine (hQv58.root HX.out).mono ?_;rintro en v59 ⟨Aq,cq,rfl,hQv59⟩;clear hHeld hQv58;refine hK.out _ _ (hQv59.cells HX.out) (fun hHeld=>?_);clear hK;refine wpAnyH_ready (rs:=[9]) (by kernel_rfl) (by simp) (.cons rfl (fun K hK=>?_) .nil);go_simp
      go_at_call 20
      refine (hQv59.see2 HX.out _).mono ?_;rintro en v60 ⟨Ag,cg,rfl,hQv60⟩;unfold eC;clear hHeld hQv59;refine hK.out _ _ (hQv60.cells HX.out) (fun hHeld=>?_);clear hK;obtain⟨y0,y1,y2,y3,y4,y5,y6,z0,z1,z2,z3,z4,z5,z6⟩:=(hQv60.b4 _ rfl).all;obtain⟨V8,hV⟩:=words.nm (s7 v60 v52.heap.size Af cf);have HP:=hid (hQv60.put4 HX.out Af cf V8 hV);unfold s7 at hV;refine wpAnyH_ready (rs:=[12]) (by kernel_rfl) (by simp) (.cons rfl (fun K hK=>?_) .nil);go_simp
      rw [←hV];clear hHeld hV hQv60 y0 y1 y2 y3 y4 y5 y6 z0 z1 z2 z3 z4 z5 z6;refine hK.out _ _ HP.out.1 (fun hHeld=>?_);clear hK;obtain⟨y0,y1,y2,y3,y4,y5,y6,z0,z1,z2,z3,z4,z5,z6⟩:=HP.out.2.1.all;obtain⟨V9,hV⟩:=words.nm (s7 V8 v1.heap.size Ag cg);have HP9:=hid (HP.out.2.2 Ag cg V9 hV);unfold s7 at hV;refine wpAnyH_ready (rs:=[13]) (by kernel_rfl) (by simp) (.cons rfl (fun K hK=>?_) .nil);go_simp
      rw [←hV];clear hHeld hV HP y0 y1 y2 y3 y4 y5 y6 z0 z1 z2 z3 z4 z5 z6;refine hK.out _ _ HP9.out.1 (fun hHeld=>?_);clear hK;refine wpAnyH_done (by kernel_rfl) ?_ _;clear hHeld;go_wp2_with fail
      go_meet
      case rel=>exact⟨_,_,rfl,rfl,hid HP9.out.2⟩
    ·go_simp
     obtain⟨v61,hv61⟩:=words.nm (aZ v51);have hQv61:=hQv51.alloc4 hv61;unfold aZ at hv61;rw [←hv61];clear hHeld hv61 hQv51;refine hK.out _ _ (hQv61.cells HX.out) (fun hHeld=>?_);clear hK;refine wpAnyH_ready (rs:=[4]) (by kernel_rfl) (by simp) (.cons rfl (fun K hK=>?_) .nil);go_simp
     go_at_call 20
     refine (hQv61.see1 HX.out _).mono ?_;rintro en v62 ⟨Af,cf,rfl,hQv62⟩;unfold eC;clear hHeld hQv61;refine hK.out _ _ (hQv62.cells HX.out) (fun hHeld=>?_);clear hK;refine wpAnyH_ready (rs:=[8]) (by kernel_rfl) (by simp) (.cons rfl (fun K hK=>?_) .nil);go_simp
     go_at_call 21
     refine (hQv62.root HX.out).mono ?_;rintro en v63 ⟨Aq,cq,rfl,hQv63⟩;clear hHeld hQv62;refine hK.out _ _ (hQv63.cells HX.out) (fun hHeld=>?_);clear hK;refine wpAnyH_ready (rs:=[9]) (by kernel_rfl) (by simp) (.cons rfl (fun K hK=>?_) .nil);go_simp
     go_at_call 20
     refine (hQv63.see2 HX.out _).mono ?_;rintro en v64 ⟨Ag,cg,rfl,hQv64⟩;unfold eC;clear hHeld hQv63;refine hK.out _ _ (hQv64.cells HX.out) (fun hHeld=>?_);clear hK;obtain⟨y0,y1,y2,y3,y4,y5,y6,z0,z1,z2,z3,z4,z5,z6⟩:=(hQv64.b4 _ rfl).all;obtain⟨V8,hV⟩:=words.nm (s7 v64 v51.heap.size Af cf);have HP:=hid (hQv64.put4 HX.out Af cf V8 hV);unfold s7 at hV;refine wpAnyH_ready (rs:=[12]) (by kernel_rfl) (by simp) (.cons rfl (fun K hK=>?_) .nil);go_simp
     rw [←hV];clear hHeld hV hQv64 y0 y1 y2 y3 y4 y5 y6 z0 z1 z2 z3 z4 z5 z6;refine hK.out _ _ HP.out.1 (fun hHeld=>?_);clear hK;obtain⟨y0,y1,y2,y3,y4,y5,y6,z0,z1,z2,z3,z4,z5,z6⟩:=HP.out.2.1.all;obtain⟨V9,hV⟩:=words.nm (s7 V8 v1.heap.size Ag cg);have HP9:=hid (HP.out.2.2 Ag cg V9 hV);unfold s7 at hV;refine wpAnyH_ready (rs:=[13]) (by kernel_rfl) (by simp) (.cons rfl (fun K hK=>?_) .nil);go_simp
     rw [←hV];clear hHeld hV HP y0 y1 y2 y3 y4 y5 y6 z0 z1 z2 z3 z4 z5 z6;refine hK.out _ _ HP9.out.1 (fun hHeld=>?_);clear hK;refine wpAnyH_done (by kernel_rfl) ?_ _;clear hHeld;go_wp2_with fail
     go_meet
     case rel=>exact⟨_,_,rfl,rfl,hid HP9.out.2⟩
  ·go_simp
   obtain⟨v65,hv65⟩:=words.nm (aZ V0);have hQv65:=hQV0.alloc4 hv65;unfold aZ at hv65;rw [←hv65];clear hHeld hv65 hQV0;refine hK.out _ _ (hQv65.cells HX.out) (fun hHeld=>?_);clear hK;refine wpAnyH_ready (rs:=[3,11]) (by kernel_rfl) (by simp) ?_;refine AllReadyH.cons rfl (fun K hK=>?_) (AllReadyH.cons rfl (fun K hK=>?_) AllReadyH.nil)
   ·go_simp
    go_at_call 21
    refine (hQv65.root HX.out).mono ?_;rintro en v66 ⟨Ap,cp,rfl,hQv66⟩;clear hHeld hQv65;refine hK.out _ _ (hQv66.cells HX.out) (fun hHeld=>?_);clear hK;refine wpAnyH_ready (rs:=[4,11]) (by kernel_rfl) (by simp) ?_;refine AllReadyH.cons rfl (fun K hK=>?_) (AllReadyH.cons rfl (fun K hK=>?_) AllReadyH.nil)
    ·go_simp
     go_at_call 20
     refine (hQv66.see1 HX.out _).mono ?_;rintro en v67 ⟨Af,cf,rfl,hQv67⟩;unfold eC;clear hHeld hQv66;refine hK.out _ _ (hQv67.cells HX.out) (fun hHeld=>?_);clear hK;refine wpAnyH_ready (rs:=[8,11]) (by kernel_rfl) (by simp) ?_;refine AllReadyH.cons rfl (fun K hK=>?_) (AllReadyH.cons rfl (fun K hK=>?_) AllReadyH.nil)
     ·go_simp
      go_at_call 21
      refine (hQv67.root HX.out).mono ?_;rintro en v68 ⟨Aq,cq,rfl,hQv68⟩;clear hHeld hQv67;refine hK.out _ _ (hQv68.cells HX.out) (fun hHeld=>?_);clear hK;refine wpAnyH_ready (rs:=[9,11]) (by kernel_rfl) (by simp) ?_;refine AllReadyH.cons rfl (fun K hK=>?_) (AllReadyH.cons rfl (fun K hK=>?_) AllReadyH.nil)
      ·go_simp
       go_at_call 20
       refine (hQv68.see2 HX.out _).mono ?_;rintro en v69 ⟨Ag,cg,rfl,hQv69⟩;unfold eC;clear hHeld hQv68;refine hK.out _ _ (hQv69.cells HX.out) (fun hHeld=>?_);clear hK;refine wpAnyH_ready (rs:=[11]) (by kernel_rfl) (by simp) (.cons rfl (fun K hK=>?_) .nil);go_simp
       obtain⟨v70,hv70⟩:=words.nm (aZ v69);have hQv70:=hQv69.alloc5 hv70;unfold aZ at hv70;rw [←hv70];clear hHeld hv70 hQv69;refine hK.out _ _ (hQv70.cells HX.out) (fun hHeld=>?_);clear hK;obtain⟨y0,y1,y2,y3,y4,y5,y6,z0,z1,z2,z3,z4,z5,z6⟩:=(hQv70.b4 _ rfl).all;obtain⟨V8,hV⟩:=words.nm (s7 v70 V0.heap.size Af cf);have HP:=hid (hQv70.put4 HX.out Af cf V8 hV);unfold s7 at hV;refine wpAnyH_ready (rs:=[12]) (by kernel_rfl) (by simp) (.cons rfl (fun K hK=>?_) .nil);go_simp
       rw [←hV];clear hHeld hV hQv70 y0 y1 y2 y3 y4 y5 y6 z0 z1 z2 z3 z4 z5 z6;refine hK.out _ _ HP.out.1 (fun hHeld=>?_);clear hK;obtain⟨y0,y1,y2,y3,y4,y5,y6,z0,z1,z2,z3,z4,z5,z6⟩:=HP.out.2.1.all;obtain⟨V9,hV⟩:=words.nm (s7 V8 v69.heap.size Ag cg);have HP9:=hid (HP.out.2.2 Ag cg V9 hV);unfold s7 at hV;refine wpAnyH_ready (rs:=[13]) (by kernel_rfl) (by simp) (.cons rfl (fun K hK=>?_) .nil);go_simp
       rw [←hV];clear hHeld hV HP y0 y1 y2 y3 y4 y5 y6 z0 z1 z2 z3 z4 z5 z6;refine hK.out _ _ HP9.out.1 (fun hHeld=>?_);clear hK;refine wpAnyH_done (by kernel_rfl) ?_ _;clear hHeld;go_wp2_with fail
       go_meet
       case rel=>exact⟨_,_,rfl,rfl,hid HP9.out.2⟩
      ·go_simp
       obtain⟨v71,hv71⟩:=words.nm (aZ v68);have hQv71:=hQv68.alloc5 hv71;unfold aZ at hv71;rw [←hv71];clear hHeld hv71 hQv68;refine hK.out _ _ (hQv71.cells HX.out) (fun hHeld=>?_);clear hK;refine wpAnyH_ready (rs:=[9]) (by kernel_rfl) (by simp) (.cons rfl (fun K hK=>?_) .nil);go_simp
       go_at_call 20
       refine (hQv71.see2 HX.out _).mono ?_;rintro en v72 ⟨Ag,cg,rfl,hQv72⟩;unfold eC;clear hHeld hQv71;refine hK.out _ _ (hQv72.cells HX.out) (fun hHeld=>?_);clear hK;obtain⟨y0,y1,y2,y3,y4,y5,y6,z0,z1,z2,z3,z4,z5,z6⟩:=(hQv72.b4 _ rfl).all;obtain⟨V8,hV⟩:=words.nm (s7 v72 V0.heap.size Af cf);have HP:=hid (hQv72.put4 HX.out Af cf V8 hV);unfold s7 at hV;refine wpAnyH_ready (rs:=[12]) (by kernel_rfl) (by simp) (.cons rfl (fun K hK=>?_) .nil);go_simp
       rw [←hV];clear hHeld hV hQv72 y0 y1 y2 y3 y4 y5 y6 z0 z1 z2 z3 z4 z5 z6;refine hK.out _ _ HP.out.1 (fun hHeld=>?_);clear hK;obtain⟨y0,y1,y2,y3,y4,y5,y6,z0,z1,z2,z3,z4,z5,z6⟩:=HP.out.2.1.all;obtain⟨V9,hV⟩:=words.nm (s7 V8 v68.heap.size Ag cg);have HP9:=hid (HP.out.2.2 Ag cg V9 hV);unfold s7 at hV;refine wpAnyH_ready (rs:=[13]) (by kernel_rfl) (by simp) (.cons rfl (fun K hK=>?_) .nil);go_simp
       rw [←hV];clear hHeld hV HP y0 y1 y2 y3 y4 y5 y6 z0 z1 z2 z3 z4 z5 z6;refine hK.out _ _ HP9.out.1 (fun hHeld=>?_);clear hK;refine wpAnyH_done (by kernel_rfl) ?_ _;clear hHeld;go_wp2_with fail
       go_meet
       case rel=>exact⟨_,_,rfl,rfl,hid HP9.out.2⟩
     ·go_simp
      obtain⟨v73,hv73⟩:=words.nm (aZ v67);have hQv73:=hQv67.alloc5 hv73;unfold aZ at hv73;rw [←hv73];clear hHeld hv73 hQv67;refine hK.out _ _ (hQv73.cells HX.out) (fun hHeld=>?_);clear hK;refine wpAnyH_ready (rs:=[8]) (by kernel_rfl) (by simp) (.cons rfl (fun K hK=>?_) .nil);go_simp
      go_at_call 21
      refine (hQv73.root HX.out).mono ?_;rintro en v74 ⟨Aq,cq,rfl,hQv74⟩;clear hHeld hQv73;refine hK.out _ _ (hQv74.cells HX.out) (fun hHeld=>?_);clear hK;refine wpAnyH_ready (rs:=[9]) (by kernel_rfl) (by simp) (.cons rfl (fun K hK=>?_) .nil);go_simp
      go_at_call 20
      refine (hQv74.see2 HX.out _).mono ?_;rintro en v75 ⟨Ag,cg,rfl,hQv75⟩;unfold eC;clear hHeld hQv74;refine hK.out _ _ (hQv75.cells HX.out) (fun hHeld=>?_);clear hK;obtain⟨y0,y1,y2,y3,y4,y5,y6,z0,z1,z2,z3,z4,z5,z6⟩:=(hQv75.b4 _ rfl).all;obtain⟨V8,hV⟩:=words.nm (s7 v75 V0.heap.size Af cf);have HP:=hid (hQv75.put4 HX.out Af cf V8 hV);unfold s7 at hV;refine wpAnyH_ready (rs:=[12]) (by kernel_rfl) (by simp) (.cons rfl (fun K hK=>?_) .nil);go_simp
      rw [←hV];clear hHeld hV hQv75 y0 y1 y2 y3 y4 y5 y6 z0 z1 z2 z3 z4 z5 z6;refine hK.out _ _ HP.out.1 (fun hHeld=>?_);clear hK;obtain⟨y0,y1,y2,y3,y4,y5,y6,z0,z1,z2,z3,z4,z5,z6⟩:=HP.out.2.1.all;obtain⟨V9,hV⟩:=words.nm (s7 V8 v67.heap.size Ag cg);have HP9:=hid (HP.out.2.2 Ag cg V9 hV);unfold s7 at hV;refine wpAnyH_ready (rs:=[13]) (by kernel_rfl) (by simp) (.cons rfl (fun K hK=>?_) .nil);go_simp
      rw [←hV];clear hHeld hV HP y0 y1 y2 y3 y4 y5 y6 z0 z1 z2 z3 z4 z5 z6;refine hK.out _ _ HP9.out.1 (fun hHeld=>?_);clear hK;refine wpAnyH_done (by kernel_rfl) ?_ _;clear hHeld;go_wp2_with fail
      go_meet
      case rel=>exact⟨_,_,rfl,rfl,hid HP9.out.2⟩
    ·go_simp
     obtain⟨v76,hv76⟩:=words.nm (aZ v66);have hQv76:=hQv66.alloc5 hv76;unfold aZ at hv76;rw [←hv76];clear hHeld hv76 hQv66;refine hK.out _ _ (hQv76.cells HX.out) (fun hHeld=>?_);clear hK;refine wpAnyH_ready (rs:=[4]) (by kernel_rfl) (by simp) (.cons rfl (fun K hK=>?_) .nil);go_simp
     go_at_call 20
     refine (hQv76.see1 HX.out _).mono ?_;rintro en v77 ⟨Af,cf,rfl,hQv77⟩;unfold eC;clear hHeld hQv76;refine hK.out _ _ (hQv77.cells HX.out) (fun hHeld=>?_);clear hK;refine wpAnyH_ready (rs:=[8]) (by kernel_rfl) (by simp) (.cons rfl (fun K hK=>?_) .nil);go_simp
     go_at_call 21
     refine (hQv77.root HX.out).mono ?_;rintro en v78 ⟨Aq,cq,rfl,hQv78⟩;clear hHeld hQv77;refine hK.out _ _ (hQv78.cells HX.out) (fun hHeld=>?_);clear hK;refine wpAnyH_ready (rs:=[9]) (by kernel_rfl) (by simp) (.cons rfl (fun K hK=>?_) .nil);go_simp
     go_at_call 20
     refine (hQv78.see2 HX.out _).mono ?_;rintro en v79 ⟨Ag,cg,rfl,hQv79⟩;unfold eC;clear hHeld hQv78;refine hK.out _ _ (hQv79.cells HX.out) (fun hHeld=>?_);clear hK;obtain⟨y0,y1,y2,y3,y4,y5,y6,z0,z1,z2,z3,z4,z5,z6⟩:=(hQv79.b4 _ rfl).all;obtain⟨V8,hV⟩:=words.nm (s7 v79 V0.heap.size Af cf);have HP:=hid (hQv79.put4 HX.out Af cf V8 hV);unfold s7 at hV;refine wpAnyH_ready (rs:=[12]) (by kernel_rfl) (by simp) (.cons rfl (fun K hK=>?_) .nil);go_simp
     rw [←hV];clear hHeld hV hQv79 y0 y1 y2 y3 y4 y5 y6 z0 z1 z2 z3 z4 z5 z6;refine hK.out _ _ HP.out.1 (fun hHeld=>?_);clear hK;obtain⟨y0,y1,y2,y3,y4,y5,y6,z0,z1,z2,z3,z4,z5,z6⟩:=HP.out.2.1.all;obtain⟨V9,hV⟩:=words.nm (s7 V8 v66.heap.size Ag cg);have HP9:=hid (HP.out.2.2 Ag cg V9 hV);unfold s7 at hV;refine wpAnyH_ready (rs:=[13]) (by kernel_rfl) (by simp) (.cons rfl (fun K hK=>?_) .nil);go_simp
     rw [←hV];clear hHeld hV HP y0 y1 y2 y3 y4 y5 y6 z0 z1 z2 z3 z4 z5 z6;refine hK.out _ _ HP9.out.1 (fun hHeld=>?_);clear hK;refine wpAnyH_done (by kernel_rfl) ?_ _;clear hHeld;go_wp2_with fail
     go_meet
     case rel=>exact⟨_,_,rfl,rfl,hid HP9.out.2⟩
   ·go_simp
    obtain⟨v80,hv80⟩:=words.nm (aZ v65);have hQv80:=hQv65.alloc5 hv80;unfold aZ at hv80;rw [←hv80];clear hHeld hv80 hQv65;refine hK.out _ _ (hQv80.cells HX.out) (fun hHeld=>?_);clear hK;refine wpAnyH_ready (rs:=[3]) (by kernel_rfl) (by simp) (.cons rfl (fun K hK=>?_) .nil);go_simp
    go_at_call 21
    refine (hQv80.root HX.out).mono ?_;rintro en v81 ⟨Ap,cp,rfl,hQv81⟩;clear hHeld hQv80;refine hK.out _ _ (hQv81.cells HX.out) (fun hHeld=>?_);clear hK;refine wpAnyH_ready (rs:=[4]) (by kernel_rfl) (by simp) (.cons rfl (fun K hK=>?_) .nil);go_simp
    go_at_call 20
    refine (hQv81.see1 HX.out _).mono ?_;rintro en v82 ⟨Af,cf,rfl,hQv82⟩;unfold eC;clear hHeld hQv81;refine hK.out _ _ (hQv82.cells HX.out) (fun hHeld=>?_);clear hK;refine wpAnyH_ready (rs:=[8]) (by kernel_rfl) (by simp) (.cons rfl (fun K hK=>?_) .nil);go_simp
    go_at_call 21
    refine (hQv82.root HX.out).mono ?_;rintro en v83 ⟨Aq,cq,rfl,hQv83⟩;clear hHeld hQv82;refine hK.out _ _ (hQv83.cells HX.out) (fun hHeld=>?_);clear hK;refine wpAnyH_ready (rs:=[9]) (by kernel_rfl) (by simp) (.cons rfl (fun K hK=>?_) .nil);go_simp
    go_at_call 20
    refine (hQv83.see2 HX.out _).mono ?_;rintro en v84 ⟨Ag,cg,rfl,hQv84⟩;unfold eC;clear hHeld hQv83;refine hK.out _ _ (hQv84.cells HX.out) (fun hHeld=>?_);clear hK;obtain⟨y0,y1,y2,y3,y4,y5,y6,z0,z1,z2,z3,z4,z5,z6⟩:=(hQv84.b4 _ rfl).all;obtain⟨V8,hV⟩:=words.nm (s7 v84 V0.heap.size Af cf);have HP:=hid (hQv84.put4 HX.out Af cf V8 hV);unfold s7 at hV;refine wpAnyH_ready (rs:=[12]) (by kernel_rfl) (by simp) (.cons rfl (fun K hK=>?_) .nil);go_simp
    rw [←hV];clear hHeld hV hQv84 y0 y1 y2 y3 y4 y5 y6 z0 z1 z2 z3 z4 z5 z6;refine hK.out _ _ HP.out.1 (fun hHeld=>?_);clear hK;obtain⟨y0,y1,y2,y3,y4,y5,y6,z0,z1,z2,z3,z4,z5,z6⟩:=HP.out.2.1.all;obtain⟨V9,hV⟩:=words.nm (s7 V8 v65.heap.size Ag cg);have HP9:=hid (HP.out.2.2 Ag cg V9 hV);unfold s7 at hV;refine wpAnyH_ready (rs:=[13]) (by kernel_rfl) (by simp) (.cons rfl (fun K hK=>?_) .nil);go_simp
    rw [←hV];clear hHeld hV HP y0 y1 y2 y3 y4 y5 y6 z0 z1 z2 z3 z4 z5 z6;refine hK.out _ _ HP9.out.1 (fun hHeld=>?_);clear hK;refine wpAnyH_done (by kernel_rfl) ?_ _;clear hHeld;go_wp2_with fail
    go_meet
    case rel=>exact⟨_,_,rfl,rfl,hid HP9.out.2⟩
  ·go_simp
   obtain⟨v85,hv85⟩:=words.nm (aZ V0);have hQv85:=hQV0.alloc5 hv85;unfold aZ at hv85;rw [←hv85];clear hHeld hv85 hQV0;refine hK.out _ _ (hQv85.cells HX.out) (fun hHeld=>?_);clear hK;refine wpAnyH_ready (rs:=[3,10]) (by kernel_rfl) (by simp) ?_;refine AllReadyH.cons rfl (fun K hK=>?_) (AllReadyH.cons rfl (fun K hK=>?_) AllReadyH.nil)
   ·go_simp
    go_at_call 21
    refine (hQv85.root HX.out).mono ?_;rintro en v86 ⟨Ap,cp,rfl,hQv86⟩;clear hHeld hQv85;refine hK.out _ _ (hQv86.cells HX.out) (fun hHeld=>?_);clear hK;refine wpAnyH_ready (rs:=[4,10]) (by kernel_rfl) (by simp) ?_;refine AllReadyH.cons rfl (fun K hK=>?_) (AllReadyH.cons rfl (fun K hK=>?_) AllReadyH.nil)
    ·go_simp
     go_at_call 20
     refine (hQv86.see1 HX.out _).mono ?_;rintro en v87 ⟨Af,cf,rfl,hQv87⟩;unfold eC;clear hHeld hQv86;refine hK.out _ _ (hQv87.cells HX.out) (fun hHeld=>?_);clear hK;refine wpAnyH_ready (rs:=[8,10]) (by kernel_rfl) (by simp) ?_;refine AllReadyH.cons rfl (fun K hK=>?_) (AllReadyH.cons rfl (fun K hK=>?_) AllReadyH.nil)
     ·go_simp
      go_at_call 21
      refine (hQv87.root HX.out).mono ?_;rintro en v88 ⟨Aq,cq,rfl,hQv88⟩;clear hHeld hQv87;refine hK.out _ _ (hQv88.cells HX.out) (fun hHeld=>?_);clear hK;refine wpAnyH_ready (rs:=[9,10]) (by kernel_rfl) (by simp) ?_;refine AllReadyH.cons rfl (fun K hK=>?_) (AllReadyH.cons rfl (fun K hK=>?_) AllReadyH.nil)
      ·go_simp
       go_at_call 20
       refine (hQv88.see2 HX.out _).mono ?_;rintro en v89 ⟨Ag,cg,rfl,hQv89⟩;unfold eC;clear hHeld hQv88;refine hK.out _ _ (hQv89.cells HX.out) (fun hHeld=>?_);clear hK;refine wpAnyH_ready (rs:=[10]) (by kernel_rfl) (by simp) (.cons rfl (fun K hK=>?_) .nil);go_simp
       obtain⟨v90,hv90⟩:=words.nm (aZ v89);have hQv90:=hQv89.alloc4 hv90;unfold aZ at hv90;rw [←hv90];clear hHeld hv90 hQv89;refine hK.out _ _ (hQv90.cells HX.out) (fun hHeld=>?_);clear hK;obtain⟨y0,y1,y2,y3,y4,y5,y6,z0,z1,z2,z3,z4,z5,z6⟩:=(hQv90.b4 _ rfl).all;obtain⟨V8,hV⟩:=words.nm (s7 v90 v89.heap.size Af cf);have HP:=hid (hQv90.put4 HX.out Af cf V8 hV);unfold s7 at hV;refine wpAnyH_ready (rs:=[12]) (by kernel_rfl) (by simp) (.cons rfl (fun K hK=>?_) .nil);go_simp
       rw [←hV];clear hHeld hV hQv90 y0 y1 y2 y3 y4 y5 y6 z0 z1 z2 z3 z4 z5 z6;refine hK.out _ _ HP.out.1 (fun hHeld=>?_);clear hK;obtain⟨y0,y1,y2,y3,y4,y5,y6,z0,z1,z2,z3,z4,z5,z6⟩:=HP.out.2.1.all;obtain⟨V9,hV⟩:=words.nm (s7 V8 V0.heap.size Ag cg);have HP9:=hid (HP.out.2.2 Ag cg V9 hV);unfold s7 at hV;refine wpAnyH_ready (rs:=[13]) (by kernel_rfl) (by simp) (.cons rfl (fun K hK=>?_) .nil);go_simp
       rw [←hV];clear hHeld hV HP y0 y1 y2 y3 y4 y5 y6 z0 z1 z2 z3 z4 z5 z6;refine hK.out _ _ HP9.out.1 (fun hHeld=>?_);clear hK;refine wpAnyH_done (by kernel_rfl) ?_ _;clear hHeld;go_wp2_with fail
       go_meet
       case rel=>exact⟨_,_,rfl,rfl,hid HP9.out.2⟩
      ·go_simp
       obtain⟨v91,hv91⟩:=words.nm (aZ v88);have hQv91:=hQv88.alloc4 hv91;unfold aZ at hv91;rw [←hv91];clear hHeld hv91 hQv88;refine hK.out _ _ (hQv91.cells HX.out) (fun hHeld=>?_);clear hK;refine wpAnyH_ready (rs:=[9]) (by kernel_rfl) (by simp) (.cons rfl (fun K hK=>?_) .nil);go_simp
       go_at_call 20
       refine (hQv91.see2 HX.out _).mono ?_;rintro en v92 ⟨Ag,cg,rfl,hQv92⟩;unfold eC;clear hHeld hQv91;refine hK.out _ _ (hQv92.cells HX.out) (fun hHeld=>?_);clear hK;obtain⟨y0,y1,y2,y3,y4,y5,y6,z0,z1,z2,z3,z4,z5,z6⟩:=(hQv92.b4 _ rfl).all;obtain⟨V8,hV⟩:=words.nm (s7 v92 v88.heap.size Af cf);have HP:=hid (hQv92.put4 HX.out Af cf V8 hV);unfold s7 at hV;refine wpAnyH_ready (rs:=[12]) (by kernel_rfl) (by simp) (.cons rfl (fun K hK=>?_) .nil);go_simp
       rw [←hV];clear hHeld hV hQv92 y0 y1 y2 y3 y4 y5 y6 z0 z1 z2 z3 z4 z5 z6;refine hK.out _ _ HP.out.1 (fun hHeld=>?_);clear hK;obtain⟨y0,y1,y2,y3,y4,y5,y6,z0,z1,z2,z3,z4,z5,z6⟩:=HP.out.2.1.all;obtain⟨V9,hV⟩:=words.nm (s7 V8 V0.heap.size Ag cg);have HP9:=hid (HP.out.2.2 Ag cg V9 hV);unfold s7 at hV;refine wpAnyH_ready (rs:=[13]) (by kernel_rfl) (by simp) (.cons rfl (fun K hK=>?_) .nil);go_simp
       rw [←hV];clear hHeld hV HP y0 y1 y2 y3 y4 y5 y6 z0 z1 z2 z3 z4 z5 z6;refine hK.out _ _ HP9.out.1 (fun hHeld=>?_);clear hK;refine wpAnyH_done (by kernel_rfl) ?_ _;clear hHeld;go_wp2_with fail
       go_meet
       case rel=>exact⟨_,_,rfl,rfl,hid HP9.out.2⟩
     ·go_simp
      obtain⟨v93,hv93⟩:=words.nm (aZ v87);have hQv93:=hQv87.alloc4 hv93;unfold aZ at hv93;rw [←hv93];clear hHeld hv93 hQv87;refine hK.out _ _ (hQv93.cells HX.out) (fun hHeld=>?_);clear hK;refine wpAnyH_ready (rs:=[8]) (by kernel_rfl) (by simp) (.cons rfl (fun K hK=>?_) .nil);go_simp
      go_at_call 21
      refine (hQv93.root HX.out).mono ?_;rintro en v94 ⟨Aq,cq,rfl,hQv94⟩;clear hHeld hQv93;refine hK.out _ _ (hQv94.cells HX.out) (fun hHeld=>?_);clear hK;refine wpAnyH_ready (rs:=[9]) (by kernel_rfl) (by simp) (.cons rfl (fun K hK=>?_) .nil);go_simp
      go_at_call 20
      refine (hQv94.see2 HX.out _).mono ?_;rintro en v95 ⟨Ag,cg,rfl,hQv95⟩;unfold eC;clear hHeld hQv94;refine hK.out _ _ (hQv95.cells HX.out) (fun hHeld=>?_);clear hK;obtain⟨y0,y1,y2,y3,y4,y5,y6,z0,z1,z2,z3,z4,z5,z6⟩:=(hQv95.b4 _ rfl).all;obtain⟨V8,hV⟩:=words.nm (s7 v95 v87.heap.size Af cf);have HP:=hid (hQv95.put4 HX.out Af cf V8 hV);unfold s7 at hV;refine wpAnyH_ready (rs:=[12]) (by kernel_rfl) (by simp) (.cons rfl (fun K hK=>?_) .nil);go_simp
      rw [←hV];clear hHeld hV hQv95 y0 y1 y2 y3 y4 y5 y6 z0 z1 z2 z3 z4 z5 z6;refine hK.out _ _ HP.out.1 (fun hHeld=>?_);clear hK;obtain⟨y0,y1,y2,y3,y4,y5,y6,z0,z1,z2,z3,z4,z5,z6⟩:=HP.out.2.1.all;obtain⟨V9,hV⟩:=words.nm (s7 V8 V0.heap.size Ag cg);have HP9:=hid (HP.out.2.2 Ag cg V9 hV);unfold s7 at hV;refine wpAnyH_ready (rs:=[13]) (by kernel_rfl) (by simp) (.cons rfl (fun K hK=>?_) .nil);go_simp
      rw [←hV];clear hHeld hV HP y0 y1 y2 y3 y4 y5 y6 z0 z1 z2 z3 z4 z5 z6;refine hK.out _ _ HP9.out.1 (fun hHeld=>?_);clear hK;refine wpAnyH_done (by kernel_rfl) ?_ _;clear hHeld;go_wp2_with fail
      go_meet
      case rel=>exact⟨_,_,rfl,rfl,hid HP9.out.2⟩
    ·go_simp
     obtain⟨v96,hv96⟩:=words.nm (aZ v86);have hQv96:=hQv86.alloc4 hv96;unfold aZ at hv96;rw [←hv96];clear hHeld hv96 hQv86;refine hK.out _ _ (hQv96.cells HX.out) (fun hHeld=>?_);clear hK;refine wpAnyH_ready (rs:=[4]) (by kernel_rfl) (by simp) (.cons rfl (fun K hK=>?_) .nil);go_simp
     go_at_call 20
     refine (hQv96.see1 HX.out _).mono ?_;rintro en v97 ⟨Af,cf,rfl,hQv97⟩;unfold eC;clear hHeld hQv96;refine hK.out _ _ (hQv97.cells HX.out) (fun hHeld=>?_);clear hK;refine wpAnyH_ready (rs:=[8]) (by kernel_rfl) (by simp) (.cons rfl (fun K hK=>?_) .nil);go_simp
     go_at_call 21
     refine (hQv97.root HX.out).mono ?_;rintro en v98 ⟨Aq,cq,rfl,hQv98⟩;clear hHeld hQv97;refine hK.out _ _ (hQv98.cells HX.out) (fun hHeld=>?_);clear hK;refine wpAnyH_ready (rs:=[9]) (by kernel_rfl) (by simp) (.cons rfl (fun K hK=>?_) .nil);go_simp
     go_at_call 20
     refine (hQv98.see2 HX.out _).mono ?_;rintro en v99 ⟨Ag,cg,rfl,hQv99⟩;unfold eC;clear hHeld hQv98;refine hK.out _ _ (hQv99.cells HX.out) (fun hHeld=>?_);clear hK;obtain⟨y0,y1,y2,y3,y4,y5,y6,z0,z1,z2,z3,z4,z5,z6⟩:=(hQv99.b4 _ rfl).all;obtain⟨V8,hV⟩:=words.nm (s7 v99 v86.heap.size Af cf);have HP:=hid (hQv99.put4 HX.out Af cf V8 hV);unfold s7 at hV;refine wpAnyH_ready (rs:=[12]) (by kernel_rfl) (by simp) (.cons rfl (fun K hK=>?_) .nil);go_simp
     rw [←hV];clear hHeld hV hQv99 y0 y1 y2 y3 y4 y5 y6 z0 z1 z2 z3 z4 z5 z6;refine hK.out _ _ HP.out.1 (fun hHeld=>?_);clear hK;obtain⟨y0,y1,y2,y3,y4,y5,y6,z0,z1,z2,z3,z4,z5,z6⟩:=HP.out.2.1.all;obtain⟨V9,hV⟩:=words.nm (s7 V8 V0.heap.size Ag cg);have HP9:=hid (HP.out.2.2 Ag cg V9 hV);unfold s7 at hV;refine wpAnyH_ready (rs:=[13]) (by kernel_rfl) (by simp) (.cons rfl (fun K hK=>?_) .nil);go_simp
     rw [←hV];clear hHeld hV HP y0 y1 y2 y3 y4 y5 y6 z0 z1 z2 z3 z4 z5 z6;refine hK.out _ _ HP9.out.1 (fun hHeld=>?_);clear hK;refine wpAnyH_done (by kernel_rfl) ?_ _;clear hHeld;go_wp2_with fail
     go_meet
     case rel=>exact⟨_,_,rfl,rfl,hid HP9.out.2⟩
   ·go_simp
    obtain⟨v100,hv100⟩:=words.nm (aZ v85);have hQv100:=hQv85.alloc4 hv100;unfold aZ at hv100;rw [←hv100];clear hHeld hv100 hQv85;refine hK.out _ _ (hQv100.cells HX.out) (fun hHeld=>?_);clear hK;refine wpAnyH_ready (rs:=[3]) (by kernel_rfl) (by simp) (.cons rfl (fun K hK=>?_) .nil);go_simp
    go_at_call 21
    refine (hQv100.root HX.out).mono ?_;rintro en v101 ⟨Ap,cp,rfl,hQv101⟩;clear hHeld hQv100;refine hK.out _ _ (hQv101.cells HX.out) (fun hHeld=>?_);clear hK;refine wpAnyH_ready (rs:=[4]) (by kernel_rfl) (by simp) (.cons rfl (fun K hK=>?_) .nil);go_simp
    go_at_call 20
    refine (hQv101.see1 HX.out _).mono ?_;rintro en v102 ⟨Af,cf,rfl,hQv102⟩;unfold eC;clear hHeld hQv101;refine hK.out _ _ (hQv102.cells HX.out) (fun hHeld=>?_);clear hK;refine wpAnyH_ready (rs:=[8]) (by kernel_rfl) (by simp) (.cons rfl (fun K hK=>?_) .nil);go_simp
    go_at_call 21
    refine (hQv102.root HX.out).mono ?_;rintro en v103 ⟨Aq,cq,rfl,hQv103⟩;clear hHeld hQv102;refine hK.out _ _ (hQv103.cells HX.out) (fun hHeld=>?_);clear hK;refine wpAnyH_ready (rs:=[9]) (by kernel_rfl) (by simp) (.cons rfl (fun K hK=>?_) .nil);go_simp
    go_at_call 20
    refine (hQv103.see2 HX.out _).mono ?_;rintro en v104 ⟨Ag,cg,rfl,hQv104⟩;unfold eC;clear hHeld hQv103;refine hK.out _ _ (hQv104.cells HX.out) (fun hHeld=>?_);clear hK;obtain⟨y0,y1,y2,y3,y4,y5,y6,z0,z1,z2,z3,z4,z5,z6⟩:=(hQv104.b4 _ rfl).all;obtain⟨V8,hV⟩:=words.nm (s7 v104 v85.heap.size Af cf);have HP:=hid (hQv104.put4 HX.out Af cf V8 hV);unfold s7 at hV;refine wpAnyH_ready (rs:=[12]) (by kernel_rfl) (by simp) (.cons rfl (fun K hK=>?_) .nil);go_simp
    rw [←hV];clear hHeld hV hQv104 y0 y1 y2 y3 y4 y5 y6 z0 z1 z2 z3 z4 z5 z6;refine hK.out _ _ HP.out.1 (fun hHeld=>?_);clear hK;obtain⟨y0,y1,y2,y3,y4,y5,y6,z0,z1,z2,z3,z4,z5,z6⟩:=HP.out.2.1.all;obtain⟨V9,hV⟩:=words.nm (s7 V8 V0.heap.size Ag cg);have HP9:=hid (HP.out.2.2 Ag cg V9 hV);unfold s7 at hV;refine wpAnyH_ready (rs:=[13]) (by kernel_rfl) (by simp) (.cons rfl (fun K hK=>?_) .nil);go_simp
    rw [←hV];clear hHeld hV HP y0 y1 y2 y3 y4 y5 y6 z0 z1 z2 z3 z4 z5 z6;refine hK.out _ _ HP9.out.1 (fun hHeld=>?_);clear hK;refine wpAnyH_done (by kernel_rfl) ?_ _;clear hHeld;go_wp2_with fail
    go_meet
    case rel=>exact⟨_,_,rfl,rfl,hid HP9.out.2⟩
 case rest=>
  obtain⟨a4,a5,rfl,rfl,HP⟩:=hcut;obtain⟨bo,A2,c2,hs⟩:=HP.out.ph;obtain⟨Af,cf,h4⟩:=HP.out.e4;obtain⟨Ag,cg,h5⟩:=HP.out.e5;have hbc:=HX.out.bel.trans (HP.out.kept.below HX.out.bel.size);have hnl:((shd.news gs 2).set i ⟨g,bo,2,[(kA,eV A2 c2)]⟩).length=2:=by rw [List.length_set,Jfg,HX.out.len]
  have HH:=hid (show Calls prog 12 #[.pointer (some ⟨b.v,0,none⟩)] wc (Still wc (.tuple #[.int .i64 1,.int .i64 1,.int .i64 0])) from Jkr hs);have HS:=hid hs;have HBc:=hid hbc;have H4:=hid h4;have H5:=hid h5;have HNl:=hid hnl;clear hs hbc h4 h5 hnl HP;go_wp2_with fail
  refine HH.out.mono ?_;rintro e w11 ⟨rfl,hb11⟩;obtain⟨N,hN⟩:∃N:Int,N=(i:Int):=⟨_,rfl⟩
  have HNk:=hid (show Calls prog 14 #[.pointer (some ⟨b.v,0,none⟩),.string ⟨#[47]⟩,.string ⟨#[97]⟩] w11 (Still w11 (.agg #[.bool false,.int .i64 N])) from by
    have h1:=Jii ⟨#[47]⟩ ⟨#[97]⟩ (HS.out.later hb11) (show 0<((shd.news gs 2).set i ⟨g,bo,2,[(kA,eV A2 c2)]⟩).length by rw [HNl.out];decide) (show ((shd.news gs 2).set i ⟨g,bo,2,[(kA,eV A2 c2)]⟩).length≤256 by rw [HNl.out];decide) (by decide) (by decide);rw [show (dk A c L gs gs2 g i bo A2 c2 ((1:Nat):Int)).N.length=2 from HNl.out,show sha.ofF (dca.childB ⟨#[47]⟩ ⟨#[97]⟩) 2=i from HX.out.of.symm,←hN] at h1;exact h1)
  have HB11:=hid hb11;have HNe:=hid hN;clear hb11 HH hN;go_wp2_with fail
  refine HNk.out.mono ?_;rintro e w12 ⟨rfl,hb12⟩;obtain⟨a9,ha9⟩:=words.nm (w12.heap.size);obtain⟨W13,hW13⟩:=words.nm (w12.alloc (.cells #[.bool false,.int .i64 N] 62));have hb13:Below w12.heap.size w12 W13:=words.b1 hW13;have hk13:W13.heap[a9]?=some (.cells #[.bool false,.int .i64 N] 62 (0,0)):=by rw [hW13,ha9];exact heap_alloc_new w12 _
  have hbc13:Below wc.heap.size wc W13:=HB11.out.trans ((hb12.trans (hb13.mono hb12.size)).mono HB11.out.size);have hs13:=HS.out.later hbc13;have x4:W13.cell? ⟨a4,1,none⟩=some (.bool true):=Jaa ((hbc13.block _ (lt_of_some H4.out)).trans H4.out) 1;have x5:W13.cell? ⟨a5,6,none⟩=some (.string ⟨#[47,98]⟩):=Jaa ((hbc13.block _ (lt_of_some H5.out)).trans H5.out) 6;have x90:=Jaa hk13 0;have x91:=Jaa hk13 1;obtain⟨l,hl⟩:∃l:Lk,kvL l= .agg #[.bool false,.int .i64 N]:=⟨(false,⟨i,by rw [HX.out.of];exact Nat.lt_of_lt_of_le (sha.ofF_lt kA (by decide)) (by decide)⟩),by rw [HNe.out];rfl⟩
  have HT1:=hid (Jp8 (l:=l) (id:=1) hs13 hl rfl (Nat.zero_le _));have HK13:=hid hk13;have HBV:=hid (HBc.out.trans (hbc13.mono HBc.out.size));have HL:=hid hl;have HW13:=hid hW13;have HA9:=hid ha9;have hne:a9≠b.mp:=by
   have h1:=HS.out.lt.2;have h2:wc.heap.size≤w12.heap.size:=Nat.le_trans HB11.out.size hb12.size;omega
  have HNE:=hid hne;clear hb12 hb13 hk13 hbc13 hs13 hl hW13 ha9 HNk hne;go_upto_region 10 with fail
  rw [←HA9.out,←HW13.out];go_wp2_with fail
  refine HT1.out.mono ?_;rintro e w14 ⟨rfl,hs14,ht14⟩;have hk14:=(ht14.block a9 (lt_of_some HK13.out) HNE.out).trans HK13.out;have hb14:Below v1.heap.size v1 w14:=HBV.out.trans (ht14.below (fun k hk=>by rw [hk];exact hs14.mp) HBV.out.size);have hT2:=Jrt (l:=l) (id:=2) (v:=1) hs14 HL.out (by show valK ([]++[(l,1)]) l=some 1;simp [valK]);have HT2:=hid hT2;have HS14:=hid hs14;have HB14:=hid hb14;have x90:=Jaa hk14 0;have x91:=Jaa hk14 1;clear hs14 ht14 hk14 hb14 hT2 HT1 x4 x5;go_wp2_with fail
  refine HT2.out.mono ?_;rintro e w15 ⟨rfl,hb15⟩;have hs15:=HS14.out.later hb15;have HHd:=hid (show Calls prog 23 #[.pointer (some ⟨b.v,0,none⟩)] w15 (fun e w'=>e= .returned (.int .i64 1)∧w'=w15) from Jqy hs15);have HB15:=hid (HB14.out.trans (hb15.mono HB14.out.size));have HS15:=hid hs15;clear hb15 hs15 HT2 x90 x91;go_wp2_with fail
  refine HHd.out.mono ?_;rintro e w16 ⟨rfl,rfl⟩;obtain⟨i2,hi2⟩:=words.nm (sha.ofF ⟨#[47]⟩ 2);obtain⟨g2,hg2⟩:∃g2,gs2[i2]?=some g2:=⟨_,List.getElem?_eq_getElem (by rw [HG2.out,hi2];exact sha.ofF_lt _ (by decide))⟩
  have hn2:(shl.news gs2 2).length=2:=by unfold shl.news;rw [List.length_map,HG2.out]
  have hls:=Jp6 HLk.out HB15.out c mx (Jae HM.out HBv.out);have HLi:=hid (Jlb (i:=i2) (c:=⟨g2,none,2,[]⟩) (p:=⟨#[47]⟩) (l:=[(ab,3)]) HS15.out HB15.out.size
    ⟨show 0<(shl.news gs2 2).length by rw [hn2];decide,show (shl.news gs2 2).length≤256 by rw [hn2];decide,show i2=sha.ofF ⟨#[47]⟩ (shl.news gs2 2).length by rw [hn2];exact hi2,show (shl.news gs2 2)[i2]?=some ⟨g2,none,2,[]⟩ by unfold shl.news;rw [List.getElem?_map,hg2];rfl,Nat.zero_le _,by decide⟩ (show (0:Int)≤0∧(0:Int)≤1000000 by decide) rfl (by decide) hls)
  have l1:([(ab,3)]:List (ByteArray×Int)).length=1:=rfl;unfold ListV at HLi;rw [l1] at HLi;clear hi2 hg2 hn2 hls l1 HHd;go_wp2_with fail
  refine HLi.out.mono ?_;rintro e w17 ⟨Al,cl,Ls,rfl,_,_,_,hk17⟩;have HF:=hid (HBv.out.trans ((HB15.out.trans (hk17.below HB15.out.size)).mono HBv.out.size));clear hk17 HLi;go_wp2_with fail
  go_ret
  exact⟨rfl,HF.out⟩
end Go.Proofs.YtkjpgheealfedaaGreatDoor.svr
