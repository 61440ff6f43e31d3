import Derived.Test.YtkjpgheealfedaaGreatDoorJXE
set_option maxHeartbeats 3200000
set_option maxRecDepth 100000
open Go.Lib (hid)
open Go.Proofs.Tryz
namespace Go.Proofs.YtkjpgheealfedaaGreatDoor.wlk
open Go.RowKit words ext name tre stk Go.Proofs.YtkjpgheealfedaaGreatDoor.seen
theorem Jfs (A:Option Addr) (n c:Nat) (ad K l i:Int) (Aq:Option Addr) (nq cq:Nat) (w:World) (hK:K≠3):
  Calls prog 31 #[stkV A n c ad,.agg #[.int .i64 K,.int .i64 l,.int .i64 i,.slice Aq nq cq]] w fun e w'=>e= .returned (.string ⟨#[]⟩)∧Below w.heap.size w w':=by
 obtain⟨W1,hW1⟩:=words.nm (w.alloc (.cells #[.slice A n c,.int .i64 ad] 29));obtain⟨g,hg⟩:=words.nm (w.heap.size+1);have hb1:=words.b1 hW1;have hs1:W1.heap[w.heap.size]?=some (.cells #[.slice A n c,.int .i64 ad] 29 (0,0)):=by rw [hW1];exact heap_alloc_new w _
 have hz1:W1.heap.size=g:=by rw [hW1,hg];exact World.size_alloc w _
 obtain⟨W2,hW2⟩:=words.nm (W1.alloc (.cells #[.int .i64 K,.int .i64 l,.int .i64 i,.slice Aq nq cq] 37));have hb2:Below W1.heap.size W1 W2:=words.b1 hW2;have hs2:W2.heap[g]?=some (.cells #[.int .i64 K,.int .i64 l,.int .i64 i,.slice Aq nq cq] 37 (0,0)):=by rw [hW2,←hz1];exact heap_alloc_new W1 _
 have hk2:W2.heap[w.heap.size]?=some (.cells #[.slice A n c,.int .i64 ad] 29 (0,0)):=(hb2.block _ (lt_of_some hs1)).trans hs1;have f0:W2.cell? ⟨g,0,none⟩=some (.int .i64 K):=Jaa hs2 0;have hb02:=hb1.trans (hb2.mono hb1.size);have g0:(K !=3)=true:=by rw [bne_iff_ne];exact hK
 have HB:=hid hb02;have HW:Hid (((w.alloc (.cells #[.slice A n c,.int .i64 ad] 29)).alloc (.cells #[.int .i64 K,.int .i64 l,.int .i64 i,.slice Aq nq cq] 37))=W2):=hid (by rw [hW2,hW1]);have HG:=hid hg.symm;clear hW1 hb1 hs1 hz1 hW2 hb2 hs2 hk2 hb02 hK hg;unfold stkV;go_enter func31,ntmps31
 go_upto_region 1 with fail
 rw [HW.out];simp only [HG.out];go_wp2_with fail
 go_ret
 exact⟨rfl,HB.out⟩
theorem Jqe {R:List Nd} (A:Option Addr) (c:Nat) (ad:Int) (L:List (Nat×Int)) (lv nd:Nat) (d:Nd) (Aq:Option Addr) (nq cq:Nat) (w:World) (h:StkM w A L (tabs R)) (ha:At R (lv,nd) d):
  Calls prog 31 #[stkV A L.length c ad,.agg #[.int .i64 3,.int .i64 (lv:Int),.int .i64 (nd:Int),.slice Aq nq cq]] w fun e w'=>e= .returned (.string d.T)∧Below w.heap.size w w':=by
 obtain⟨W1,hW1⟩:=words.nm (w.alloc (.cells #[.slice A L.length c,.int .i64 ad] 29));obtain⟨g,hg⟩:=words.nm (w.heap.size+1);have hb1:=words.b1 hW1;have hs1:W1.heap[w.heap.size]?=some (.cells #[.slice A L.length c,.int .i64 ad] 29 (0,0)):=by rw [hW1];exact heap_alloc_new w _
 have hz1:W1.heap.size=g:=by rw [hW1,hg];exact World.size_alloc w _
 obtain⟨W2,hW2⟩:=words.nm (W1.alloc (.cells #[.int .i64 3,.int .i64 (lv:Int),.int .i64 (nd:Int),.slice Aq nq cq] 37));have hb2:Below W1.heap.size W1 W2:=words.b1 hW2;have hs2:W2.heap[g]?=some (.cells #[.int .i64 3,.int .i64 (lv:Int),.int .i64 (nd:Int),.slice Aq nq cq] 37 (0,0)):=by rw [hW2,←hz1];exact heap_alloc_new W1 _
 have hk2:W2.heap[w.heap.size]?=some (.cells #[.slice A L.length c,.int .i64 ad] 29 (0,0)):=(hb2.block _ (lt_of_some hs1)).trans hs1;have f0:W2.cell? ⟨g,0,none⟩=some (.int .i64 3):=Jaa hs2 0;have hb02:=hb1.trans (hb2.mono hb1.size);have hS2:=h.later hb02;obtain⟨t,ht,htd⟩:=id ha;have hE:=Jem ht;have hEe:(flatN 0 t)[nd]?=some (entOf nd d):=Jcs htd;obtain⟨y,hy⟩:∃y,L[lv]?=some y:=⟨_,List.getElem?_eq_getElem (by rw [←hS2.es];exact (List.getElem?_eq_some_iff.1 hE).1)⟩
 have HA:Hid (∀w':World,Below W2.heap.size W2 w'→Calls prog 67 #[.agg #[.slice A L.length c,.int .i64 ad],.int .i64 (lv:Int)] w' fun e w''=>e= .returned (.pointer (some ⟨y.1,0,none⟩))∧Below W2.heap.size W2 w''):=hid fun w' hb=>
  (Jda A L.length c lv ad L y w' (hS2.later hb).rows rfl hy).mono fun e w'' ⟨h1,h2⟩=>⟨h1,hb.trans (h2.mono hb.size)⟩
 have HT:Hid (∀w':World,Below W2.heap.size W2 w'→Calls prog 68 #[.pointer (some ⟨y.1,0,none⟩),.int .i64 (nd:Int)] w' fun e w''=>e= .returned (.string d.T)∧Below W2.heap.size W2 w''):=hid fun w' hb=>
  (Jfv y.1 nd _ _ w' ((hS2.later hb).brs lv y _ hy hE) hEe).mono fun _ _ ⟨he,hw⟩=>⟨by rw [he,show (entOf nd d).x.T=d.T from Jr8 d],hb.trans (hw.mono hb.size)⟩
 have hS0:∀w':World,Below W2.heap.size W2 w'→(w'.cell? ⟨w.heap.size,0,none⟩=some (.slice A L.length c)∧w'.cell? ⟨w.heap.size,1,none⟩=some (.int .i64 ad)∧w'.cell? ⟨g,1,none⟩=some (.int .i64 (lv:Int))∧w'.cell? ⟨g,2,none⟩=some (.int .i64 (nd:Int))∧Below W2.heap.size W2 w'):=fun w' hb'=>by
  have e1:=(hb'.block _ (lt_of_some hk2)).trans hk2;have e2:=(hb'.block _ (lt_of_some hs2)).trans hs2;exact⟨Jaa e1 0,Jaa e1 1,Jaa e2 1,Jaa e2 2,hb'⟩
 have HSS:=hid hS0;have HBv:Hid (Below W2.heap.size W2 W2.drew):=hid (Below.refl _ _).drew;have HB:=hid hb02;have HW:Hid (((w.alloc (.cells #[.slice A L.length c,.int .i64 ad] 29)).alloc (.cells #[.int .i64 3,.int .i64 (lv:Int),.int .i64 (nd:Int),.slice Aq nq cq] 37))=W2):=hid (by rw [hW2,hW1]);have HG:=hid hg.symm;clear hW1 hb1 hs1 hz1 hW2 hb2 hs2 hk2 hb02 hg hS2 h ha ht htd hE hEe hy hS0;unfold stkV;go_enter func31,ntmps31
 go_upto_region 1 with fail
 rw [HW.out];simp only [HG.out];go_upto_region 3 with fail
 refine wp_region_held_drew (S:=fun w'=>(w'.cell? ⟨w.heap.size,0,none⟩=some (.slice A L.length c)∧w'.cell? ⟨w.heap.size,1,none⟩=some (.int .i64 ad)∧w'.cell? ⟨g,1,none⟩=some (.int .i64 (lv:Int))∧w'.cell? ⟨g,2,none⟩=some (.int .i64 (nd:Int))∧Below W2.heap.size W2 w')) (by kernel_rfl) (HSS.out _ HBv.out) (fun hHeld=>?_);refine words.tk 0 8 (v:=?_) ?_ ?_
 rotate_left 1
 ·intro _ h;(try dsimp only at h);go_simp;(try with_reducible rfl)
 try simp only [words.pt]
 refine words.tk 1 9 (v:=?_) ?_ ?_
 rotate_left 1
 ·intro _ h;(try dsimp only at h);go_simp;(try with_reducible rfl)
 try simp only [words.pt]
 refine words.tk 2 10 (v:=?_) ?_ ?_
 rotate_left 1
 ·intro _ h;(try dsimp only at h);go_simp;(try with_reducible rfl)
 try simp only [words.pt]
 refine words.tk 3 11 (v:=?_) ?_ ?_
 rotate_left 1
 ·intro _ h;(try dsimp only at h);go_simp;(try with_reducible rfl)
 try simp only [words.pt]
 refine words.tk 5 13 (v:=?_) ?_ ?_
 rotate_left 1
 ·intro _ h;(try dsimp only at h);go_simp;(try with_reducible rfl)
 try simp only [words.pt]
 refine words.tk 6 14 (v:=?_) ?_ ?_
 rotate_left 1
 ·intro _ h;(try dsimp only at h);go_simp;(try with_reducible rfl)
 try simp only [words.pt]
 refine words.tk 7 15 (v:=?_) ?_ ?_
 rotate_left 1
 ·intro _ h;(try dsimp only at h);go_simp;(try with_reducible rfl)
 try simp only [words.pt]
 refine wpAnyH_ready (rs:=[4]) (by kernel_rfl) (by simp) (.cons rfl (fun K hK=>?_) .nil);go_simp
 go_at_call 67
 refine (HA.out _ HBv.out).mono ?_;rintro en v3 ⟨rfl,hv3⟩;clear hHeld;refine hK.out _ _ (HSS.out _ hv3) (fun hHeld=>?_);clear hK;refine wpAnyH_ready (rs:=[8]) (by kernel_rfl) (by simp) (.cons rfl (fun K hK=>?_) .nil);go_simp
 go_at_call 68
 refine (HT.out _ hv3).mono ?_;rintro en v4 ⟨rfl,hv4⟩;clear hHeld;refine hK.out _ _ (HSS.out _ hv4) (fun hHeld=>?_);clear hK;refine words.tk 9 4 (v:=?_) ?_ ?_
 rotate_left 1
 ·intro _ h;(try dsimp only at h);go_simp;(try with_reducible rfl)
 try simp only [words.pt]
 refine wpAnyH_done (by kernel_rfl) ?_ _;have HF:=hid (HB.out.trans (hv4.mono HB.out.size));clear hHeld hv3 hv4 HA HT HSS HBv;go_wp2_with fail
 go_ret
 exact⟨rfl,HF.out⟩

def TgtH (t:Tg) (w:World) (e:Ending) (w':World):Prop:=(∃A c,e= .returned (tgV t A c)∧Plc w' w'.heap.size A t.Q∧t.Q.length≤c∧(A=none→t.Q.length=0∧c=0)∧∀b o fr,A=some ⟨b,o,fr⟩→w.heap.size≤b)∧Below w.heap.size w w'
theorem Jj6 (w:World) (g:Nat) (ts:List Tg) (t:Tg) (f:Bool) (h:Nat) (hw:Wkr w g (ts++[t]) [] f h) (hl:ts.length≤1000000000) (hq:t.Q.length≤1000):
  Calls prog 28 #[.pointer (some ⟨g,0,none⟩)] w (TgtH t w):=by
 obtain⟨W1,hW1⟩:=words.nm (w.alloc (.cells #[.string ⟨#[]⟩,.int .i64 0,.int .i64 0,.int .i64 0,.slice none 0 0] 39));have hb1:=words.b1 hW1;have hx1:W1.heap[w.heap.size]?=some (.cells #[.string ⟨#[]⟩,.int .i64 0,.int .i64 0,.int .i64 0,.slice none 0 0] 39 (0,0)):=by rw [hW1];exact heap_alloc_new w _
 have HA:=hid (Jnh W1 g ts t [] f h (hw.later hb1) hl);obtain⟨A,c,Ap,cp,hg0,_,_,_,_⟩:=hw.ex;have hg:=(hb1.block _ (lt_of_some hg0)).trans hg0;have v1:W1.cell? ⟨g,1,none⟩=some (.slice Ap 0 cp):=Jaa hg 1;have HX1:=hid hx1;have HB1:=hid hb1;have HW1:=hid hW1;clear hw hg hg0 hW1 hb1 hx1;go_enter func28,ntmps28
 go_upto_region 1 with fail
 rw [←HW1.out];clear HW1;go_wp2_with fail
 refine HA.out.mono ?_;rintro e w1 ⟨⟨A1,c1,rfl,hp1,hc1,hz1⟩,hb1⟩;unfold tgV;obtain⟨W2,hW2⟩:=words.nm (w1.alloc (.cells #[.string t.S,.int .i64 t.K,.int .i64 t.l,.int .i64 t.i,.slice A1 t.Q.length c1] 39));have hb2:Below w1.heap.size w1 W2:=words.b1 hW2;have hk2:W2.heap[w1.heap.size]?=some (.cells #[.string t.S,.int .i64 t.K,.int .i64 t.l,.int .i64 t.i,.slice A1 t.Q.length c1] 39 (0,0)):=by rw [hW2];exact heap_alloc_new w1 _
 have hb12:=hb1.trans (hb2.mono hb1.size);have HX2:=hid ((hb12.block _ (lt_of_some HX1.out)).trans HX1.out);have HC:=hid (Jff A1 c1 t.Q W2 ((hp1.keep hb2).more hb2.size) hz1 hq);have HB2:=hid (HB1.out.trans (hb12.mono HB1.out.size));have HK2:=hid hk2;have hne:w.heap.size<w1.heap.size:=by
  have h1:=lt_of_some HX1.out;have h2:=hb1.size;omega
 have HNe:=hid hne;have k4:=Jaa hk2 4;have HW2:=hid hW2;clear hp1 hc1 hz1 hb1 hW2 hb2 hk2 hb12 hne HA v1 HX1 HB1;go_upto_region 4 with fail
 rw [←HW2.out];clear HW2;go_wp2_with fail
 refine HC.out.mono ?_;rintro e w3 ⟨⟨A3,c3,rfl,hp3,hc3,hz3,hhi⟩,hb3⟩;have hk3:=(hb3.block _ (lt_of_some HK2.out)).trans HK2.out;have hx3:=(hb3.block _ (lt_of_some HX2.out)).trans HX2.out;have hb03:=HB2.out.trans (hb3.mono HB2.out.size);obtain⟨W4,hW4⟩:=words.nm (w3.setCell ⟨w1.heap.size,4,none⟩ (.slice A3 t.Q.length c3));have hk4:W4.heap[w1.heap.size]?=some (.cells #[.string t.S,.int .i64 t.K,.int .i64 t.l,.int .i64 t.i,.slice A3 t.Q.length c3] 39 (0,0)):=by
  rw [hW4,heap_setCell_same w3 w1.heap.size 4 _ _ (.slice A3 t.Q.length c3) hk3];rfl
 have hx4:W4.heap[w.heap.size]?=some (.cells #[.string ⟨#[]⟩,.int .i64 0,.int .i64 0,.int .i64 0,.slice none 0 0] 39 (0,0)):=by
  rw [hW4];exact (heap_setCell_other _ _ _ _ (Nat.ne_of_lt HNe.out)).trans hx3
 obtain⟨Wd,hWd⟩:=words.nm (set5 W4 w.heap.size (.string t.S) (.int .i64 t.K) (.int .i64 t.l) (.int .i64 t.i) (.slice A3 t.Q.length c3));have hob:Wd.heap[w.heap.size]?=some (.cells #[.string t.S,.int .i64 t.K,.int .i64 t.l,.int .i64 t.i,.slice A3 t.Q.length c3] 39 (0,0)):=by rw [hWd];exact over5 hx4
 have hB4:Below w.heap.size w W4:=by rw [hW4];exact hb03.setCell (p:=⟨w1.heap.size,4,none⟩) (Nat.le_of_lt HNe.out) _
 have hBd:Below w.heap.size w Wd:=by rw [hWd];exact below5 hB4 (Nat.le_refl _) _ _ _ _ _
 have hW2s:=lt_of_some HK2.out;have hblk:∀b,b≠w1.heap.size→b≠w.heap.size→Wd.heap[b]?=w3.heap[b]?:=fun b h1 h2=>by
  rw [hWd,hW4];unfold set5;rw [heap_setCell_other _ _ _ _ h2,heap_setCell_other _ _ _ _ h2,heap_setCell_other _ _ _ _ h2,heap_setCell_other _ _ _ _ h2,heap_setCell_other _ _ _ _ h2,heap_setCell_other _ _ _ _ h1]
 have hsz:w3.heap.size=Wd.heap.size:=by rw [hWd,hW4];simp [set5]
 have hplc:Plc Wd Wd.heap.size A3 t.Q:=fun i x hx=>by
  obtain⟨b,off,h1,h2,h3,h4⟩:=hp3 i x hx;have h5:=hhi _ _ _ h1;have h6:=HNe.out;have e:=hblk b (by omega) (by omega);exact⟨b,off,h1,by rw [←hsz];exact h2,(World.cell?_of_block e).trans h3,(World.cell?_of_block e).trans h4⟩
 have q0:=Jaa hk4 0;have q1:=Jaa hk4 1;have q2:=Jaa hk4 2;have q3:=Jaa hk4 3;have q4:=Jaa hk4 4;have z0:=Jab hx4 0;have z1:=Jab hx4 1;have z2:=Jab hx4 2;have z3:=Jab hx4 3;have z4:=Jab hx4 4;have d0:=Jaa hx4 0;have d1:=Jaa hx4 1;have d2:=Jaa hx4 2;have d3:=Jaa hx4 3;have d4:=Jaa hx4 4;have p0:=Jaa hob 0;have p1:=Jaa hob 1;have p2:=Jaa hob 2;have p3:=Jaa hob 3;have p4:=Jaa hob 4;have y4:=Jaa hk3 4;have y5:=Jab hk3 4;have HEn:Hid (TgtH t w (.returned (tgV t A3 c3)) Wd):=hid ⟨⟨A3,c3,rfl,hplc,hc3,hz3,fun b o fr h=>Nat.le_trans HB2.out.size (hhi b o fr h)⟩,hBd⟩;unfold set5 at hWd;have HWd:=hid hWd.symm;have HW4:=hid hW4.symm;clear hp3 hc3 hz3 hhi hb3 hk3 hx3 hb03 hW4 hk4 hx4 hWd hob hB4 hBd hW2s hblk hsz hplc HC k4;go_upto_region 5 with fail
 rw [HW4.out];clear y4 y5 HW4;go_wp2_with fail
 rw [HWd.out];exact bodyPost_ret (v:=tgV t A3 c3) (by simp [results,results28,go_sem,tgV,p0,p1,p2,p3,p4]) rfl HEn.out
end Go.Proofs.YtkjpgheealfedaaGreatDoor.wlk
