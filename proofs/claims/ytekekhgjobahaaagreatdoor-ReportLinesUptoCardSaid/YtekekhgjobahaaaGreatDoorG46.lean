import Derived.Test.YtekekhgjobahaaaGreatDoorG41
import Derived.Test.YtekekhgjobahaaaGreatDoorG43
set_option maxHeartbeats 6400000
set_option maxRecDepth 100000
open Go.Lib (hid)
open Go.Proofs.Tryz
namespace Go.Proofs.YtekekhgjobahaaaGreatDoor.rep
open Go.RowKit words

theorem Jng (A:Option Addr) (c:Nat) (w:World):Calls prog 162 #[.slice A 1 c,.int .i64 0,.int .i64 1,.func (.func 92) #[] #[]] w fun e w'=>e= .returned (.tuple #[])∧w=w':=by
 go_enter func162,ntmps162
 go_wp2_with fail
 refine wp_loop_rounds 1 ?_;rw [rounds_succ];go_wp2_with fail
 go_end0
 exact⟨rfl,rfl⟩
theorem Jk6 (A:Option Addr) (c:Nat) (w:World):Calls prog 127 #[.slice A 1 c,.int .i64 1,.func (.func 92) #[] #[]] w fun e w'=>e= .returned (.tuple #[])∧w=w':=by
 have HI:=hid (Jng A c w);go_enter func127,ntmps127
 go_wp2_with fail
 refine wp_loop_rounds 1 ?_;rw [rounds_succ];go_wp2_with fail
 refine HI.out.mono ?_;rintro e w2 ⟨rfl,rfl⟩;go_wp2_with fail
 refine wp_loop_rounds 1 ?_;rw [rounds_succ];go_wp2_with fail
 go_end0
 exact⟨rfl,rfl⟩
theorem Jmx (A:Option Addr) (c:Nat) (w:World):Calls prog 91 #[.slice A 1 c,.func (.func 92) #[] #[]] w fun e w'=>e= .returned (.tuple #[])∧w=w':=by
 have HI:=hid (Jk6 A c w);go_enter func91,ntmps91
 go_wp2_with fail
 refine HI.out.mono ?_;rintro e w2 ⟨rfl,rfl⟩;go_wp2_with fail
 go_end0
 exact⟨rfl,rfl⟩
theorem Jiq (gr cr:Nat) (w:World) (hr:Rw 59 w gr r1.cs):Calls prog 55 #[.slice (some ⟨gr,0,none⟩) 1 cr] w (RecsO w):=by
 have HC:=hid (tal.copy_rec (some ⟨gr,0,none⟩) 1 cr r1.cs w (fun j u hu=>⟨gr,0,rfl,hr.lt,by rw [Nat.zero_add];exact hr.at hu⟩) (fun h=>by cases h) (by decide) rfl r1.one);clear hr;go_enter func55,ntmps55
 go_wp2_with fail
 refine HC.out.mono ?_;rintro e w2 ⟨⟨A,c2,rfl,_,_,hown⟩,hb2⟩;obtain⟨g2,rfl,hg2,_,hr2⟩:=Jh0 hown (by unfold tal.Rc.cs;simp);have y14:w2.cell? ⟨g2,14,none⟩=some (.slice none 0 0):=hr2.at (i:=14) rfl;have z14:=hr2.free 14;have HCl:=hid (Jbj 0 0 w2);obtain⟨W3,hW3⟩:=words.nm (w2.setCell ⟨g2,14,none⟩ (.slice none 0 0));have HF:Hid (Rw 59 W3 g2 r1.cs∧Below w.heap.size w W3):=hid (by rw [hW3];exact⟨hr2.put 14 _ (show 14<19 by decide),hb2.setCell (p:=⟨g2,14,none⟩) hg2 _⟩);have HSo:=hid (Jmx (some ⟨g2,0,none⟩) c2 W3);have HW3:=hid hW3.symm;clear hW3 hown hg2 hr2 hb2 HC;go_wp2_with fail
 refine wp_loop_rounds 2 ?_;rw [rounds_succ];go_wp2_with fail
 refine HCl.out.mono ?_;rintro e w9 ⟨rfl,rfl⟩;go_upto_region 6 with fail
 rw [HW3.out];clear HW3 y14 z14 HCl;go_wp2_with fail
 rw [rounds_succ];go_wp2_with fail
 refine HSo.out.mono ?_;rintro e w9 ⟨rfl,rfl⟩;go_wp2_with fail
 go_ret
 exact⟨g2,c2,rfl,HF.out⟩
theorem Jh9 {B s t m:Nat} {ad ep r n:Int} {L:List (Nat×Int)} (gr cr:Nat) (w:World) (hr:Rw 59 w gr r1.cs) (hs:tal.Sp B s t m none 0 L ad ep r n [] w):
  Calls prog 53 #[.iface 80 (.pointer (some ⟨s,0,none⟩)),.slice (some ⟨gr,0,none⟩) 1 cr] w fun e w'=>e= .returned (.int .i64 (-1))∧Below w.heap.size w w':=by
 have HR0:Hid (w.rangeAt gr 0 r1.cs):=hid fun j v hv=>by rw [Nat.zero_add];exact hr.at hv
 obtain⟨W1,hW1⟩:=words.nm (w.alloc (.cells #[.int .i64 r1.cl,.int .i64 r1.ix,.int .i64 r1.k,.string r1.p,.int .i64 r1.o,.int .i64 r1.n,.int .i64 r1.i,.string r1.g,.int .i64 r1.e,.int .i64 r1.rk,.int .i64 r1.z,.int .i64 r1.wh,.int .i64 r1.id,.string r1.x,.slice r1.A r1.N.length r1.c,.bool r1.fin,.int .i64 r1.ca,.int .i64 r1.ma,.int .i64 r1.re] 59));obtain⟨hx0,hb1⟩:=stp.new hW1;have hx:W1.heap[w.heap.size]?=some (.cells #[.int .i64 0,.int .i64 0,.int .i64 7,.string ⟨#[]⟩,.int .i64 0,.int .i64 0,.int .i64 5,.string ⟨#[]⟩,.int .i64 9,.int .i64 0,.int .i64 0,.int .i64 0,.int .i64 0,.string ⟨#[]⟩,.slice none 0 0,.bool false,.int .i64 1,.int .i64 1,.int .i64 1] 59 (0,0)):=hx0;clear hx0;obtain⟨g,hg⟩:=words.nm (w.heap.size);rw [←hg] at hx;have HG:=hid hg;clear hg;have HC:Hid (∀w',Below W1.heap.size W1 w'→w'.cell? ⟨g,17,none⟩=some (.int .i64 1)∧w'.cell? ⟨g,16,none⟩=some (.int .i64 1)∧w'.cell? ⟨g,18,none⟩=some (.int .i64 1)∧(w'.cell? ⟨g,2,none⟩=some (.int .i64 7)∧w'.cell? ⟨g,3,none⟩=some (.string ⟨#[]⟩)∧w'.cell? ⟨g,4,none⟩=some (.int .i64 0)∧w'.cell? ⟨g,5,none⟩=some (.int .i64 0)∧w'.cell? ⟨g,6,none⟩=some (.int .i64 5)∧w'.cell? ⟨g,7,none⟩=some (.string ⟨#[]⟩)∧w'.cell? ⟨g,8,none⟩=some (.int .i64 9)∧w'.cell? ⟨g,9,none⟩=some (.int .i64 0)∧w'.cell? ⟨g,10,none⟩=some (.int .i64 0)∧w'.cell? ⟨g,11,none⟩=some (.int .i64 0)∧w'.cell? ⟨g,12,none⟩=some (.int .i64 0)∧w'.cell? ⟨g,13,none⟩=some (.string ⟨#[]⟩)∧w'.cell? ⟨g,14,none⟩=some (.slice none 0 0)∧w'.cell? ⟨g,15,none⟩=some (.bool false))):=hid fun w' hb=>by
  have e:=stp.old hb hx;exact⟨Jaa e 17,Jaa e 16,Jaa e 18,Jaa e 2,Jaa e 3,Jaa e 4,Jaa e 5,Jaa e 6,Jaa e 7,Jaa e 8,Jaa e 9,Jaa e 10,Jaa e 11,Jaa e 12,Jaa e 13,Jaa e 14,Jaa e 15⟩
 have HB1:=hid hb1;have HBd:Hid (Below W1.heap.size W1 W1.drew):=hid (Below.refl _ _).drew;have HDo:Hid (∀w',Below W1.heap.size W1 w'→Calls prog 158 #[.pointer (some ⟨s,0,none⟩),.agg #[.int .i64 7,.string ⟨#[]⟩,.int .i64 0,.int .i64 0,.int .i64 5,.string ⟨#[]⟩]] w' fun e w''=>e= .returned (.agg #[.int .i64 9,.int .i64 0,.int .i64 0,.int .i64 0,.int .i64 0,.string ⟨#[]⟩,.slice none 0 0,.bool false])∧Below w'.heap.size w' w''):=hid fun w' hb=>tal.do_close ⟨#[]⟩ 0 0 5 ⟨#[]⟩ ((hs.later hb1).later hb) (by decide) (show (Lit.int .i64 5).wf=true by decide) rfl;have hm:=fun w=>tal.m_do ⟨s,0,none⟩ w;have HSm:Hid (∀w',Calls prog 89 #[.agg #[.int .i64 9,.int .i64 0,.int .i64 0,.int .i64 0,.int .i64 0,.string ⟨#[]⟩,.slice none 0 0,.bool false],.agg #[.int .i64 9,.int .i64 0,.int .i64 0,.int .i64 0,.int .i64 0,.string ⟨#[]⟩,.slice none 0 0,.bool false]] w' fun en w''=>en= .returned (.bool true)∧Below w'.heap.size w' w''):=hid fun w'=>tal.same_bare (x:=r1) (e:=9) (b:=true) rfl (by decide) w';have HW:=hid hW1.symm;clear hr hs hx hb1 hW1;go_enter func53,ntmps53
 go_wp2_with fail
 refine wp_loop_rounds 2 ?_;rw [rounds_succ];go_upto_region 5 with (first |(refine tal.wl_load rfl rfl rfl HR0.out ?_) |(refine tal.wl_put (r:=r1) rfl rfl rfl rfl rfl ?_))
 rw [HW.out];simp only [←HG.out];clear HW HR0;refine held.wpT_start (S:=fun w'=>Below W1.heap.size W1 w') (T:=fun _=>false) (by kernel_rfl) ?_;refine stp.tk 0 15 ?_;refine stp.ld 1 16 (HBd.out) ?_ (hv:=by intro w' h;obtain⟨c17,c16,c18,c2,c3,c4,c5,c6,c7,c8,c9,c10,c11,c12,c13,c14,c15⟩:=HC.out w' h;clear h;go_simp;(try with_reducible rfl));refine stp.tk 2 17 ?_;refine stp.tk 3 18 ?_;refine stp.tk 4 19 ?_;refine stp.tk 5 20 ?_;refine stp.ld 6 21 (HBd.out) ?_ (hv:=by intro w' h;obtain⟨c17,c16,c18,c2,c3,c4,c5,c6,c7,c8,c9,c10,c11,c12,c13,c14,c15⟩:=HC.out w' h;clear h;go_simp;(try with_reducible rfl));refine stp.tk 7 22 ?_;refine stp.ld 8 23 (HBd.out) ?_ (hv:=by intro w' h;obtain⟨c17,c16,c18,c2,c3,c4,c5,c6,c7,c8,c9,c10,c11,c12,c13,c14,c15⟩:=HC.out w' h;clear h;go_simp;(try with_reducible rfl));refine stp.tk 9 24 ?_;refine stp.tk 10 25 ?_;refine stp.tk 11 26 ?_;refine stp.tk 12 27 ?_;refine stp.ld 13 28 (HBd.out) ?_ (hv:=by intro w' h;obtain⟨c17,c16,c18,c2,c3,c4,c5,c6,c7,c8,c9,c10,c11,c12,c13,c14,c15⟩:=HC.out w' h;clear h;go_simp;(try with_reducible rfl));refine stp.tk 14 29 ?_;refine stp.ld 15 30 (HBd.out) ?_ (hv:=by intro w' h;obtain⟨c17,c16,c18,c2,c3,c4,c5,c6,c7,c8,c9,c10,c11,c12,c13,c14,c15⟩:=HC.out w' h;clear h;go_simp;(try with_reducible rfl));refine stp.tk 16 31 ?_;refine stp.tk 17 32 ?_;refine stp.tk 18 33 ?_;refine stp.tk 19 34 ?_;refine stp.ld 20 35 (HBd.out) ?_ (hv:=by intro w' h;obtain⟨c17,c16,c18,c2,c3,c4,c5,c6,c7,c8,c9,c10,c11,c12,c13,c14,c15⟩:=HC.out w' h;clear h;go_simp;(try with_reducible rfl));refine stp.tk 21 36 ?_;refine stp.tk 22 37 ?_;refine stp.ld 23 38 (HBd.out) ?_ (hv:=by intro w' h;obtain⟨c17,c16,c18,c2,c3,c4,c5,c6,c7,c8,c9,c10,c11,c12,c13,c14,c15⟩:=HC.out w' h;clear h;go_simp;(try with_reducible rfl));refine held.wpT_one (i:=24) (by kernel_rfl) rfl (fun Kc hK=>?_);go_simp
 go_at_call 158
 refine (HDo.out _ HBd.out).mono ?_;rintro en w3 ⟨rfl,hb3⟩;have HB3:=hid (HBd.out.trans (hb3.mono HBd.out.size));clear hb3 HDo;refine hK.out _ _ (fun _ _=>HB3.out) ?_;clear hK;try simp only [stp.pt]
 refine held.wpT_one (i:=25) (by kernel_rfl) rfl (fun Kc hK=>?_);go_simp
 go_at_call 89
 refine (HSm.out w3).mono ?_;rintro en w4 ⟨rfl,hb4⟩;have HB4:=hid (HB3.out.trans (hb4.mono HB3.out.size));clear hb4 HSm;refine hK.out _ _ (fun _ _=>HB4.out) ?_;clear hK;try simp only [stp.pt]
 refine stp.tk 26 41 ?_;refine stp.tk 27 42 ?_;refine held.wpT_done (by kernel_rfl) ?_ _;have c17:=(HC.out w4 HB4.out).1;clear hm;go_wp2_with fail
 rw [rounds_succ];go_wp2_with fail
 go_ret
 exact⟨rfl,HB1.out.trans (HB4.out.mono HB1.out.size)⟩
theorem Jh8 (room:Int) (gr cr:Nat) (w:World) (hr:Rw 59 w gr r1.cs):Calls prog 23 #[.agg #[.slice none 0 0,.int .i64 0],.int .i64 room,.slice (some ⟨gr,0,none⟩) 1 cr] w fun e w'=>e= .returned (.int .i64 (-1))∧Below w.heap.size w w':=by
 obtain⟨W1,hW1⟩:=words.nm (w.alloc (.cells #[.slice none 0 0,.int .i64 0] 38));obtain⟨hx,hb1⟩:=stp.new hW1;obtain⟨g,hg⟩:=words.nm (w.heap.size);rw [←hg] at hx;have HG:=hid hg;clear hg;obtain⟨s0,s1⟩:=stp.cs2 hx;have HN:=hid (tal.snew_any none 0 [] 0 room (min (max room 1) 1024) W1 rfl);have HB1:=hid hb1;have HW:=hid hW1.symm;have HO:Hid (∀w',Below w.heap.size w w'→Calls prog 55 #[.slice (some ⟨gr,0,none⟩) 1 cr] w' (RecsO w')):=hid fun w' hb=>Jiq gr cr w' (hr.later hb);clear hr;clear hx hb1 hW1;go_enter func23,ntmps23
 go_upto_region 1 with fail
 rw [HW.out];simp only [←HG.out];clear HW;go_wp2_with fail
 refine HN.out.mono ?_;rintro e w2 ⟨s,t,m,rfl,hsp,hb2⟩;have HB2:=hid (HB1.out.trans (hb2.mono HB1.out.size));have HSp:=hid hsp;have HO2:=hid (HO.out w2 HB2.out);clear hsp hb2 HN HO s0 s1;go_wp2_with fail
 refine HO2.out.mono ?_;rintro e w3 ⟨gr,cr,rfl,hr3,hb3⟩;have HF:=hid (Jh9 gr cr w3 hr3 (HSp.out.later hb3));have HB3:=hid (HB2.out.trans (hb3.mono HB2.out.size));clear hb3 hr3 HO2 HSp;go_wp2_with fail
 refine HF.out.mono ?_;rintro e w4 HP;obtain⟨rfl,hb4⟩:=HP;have HB4:=hid (HB3.out.trans (hb4.mono HB3.out.size));clear hb4 HF;go_wp2_with fail
 go_ret
 exact⟨rfl,HB4.out⟩
end Go.Proofs.YtekekhgjobahaaaGreatDoor.rep
