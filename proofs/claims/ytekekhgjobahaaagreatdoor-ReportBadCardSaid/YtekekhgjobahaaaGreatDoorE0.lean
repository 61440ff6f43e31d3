import Derived.Test.YtekekhgjobahaaaGreatDoorC7
import Derived.Test.YtekekhgjobahaaaGreatDoorD8
import Derived.Test.YtekekhgjobahaaaGreatDoorD9
set_option maxHeartbeats 12800000
set_option maxRecDepth 100000
open Go.Lib (hid)
open Go.Proofs.Tryz
namespace Go.Proofs.YtekekhgjobahaaaGreatDoor.rep
open Go.RowKit words

theorem Jy3 (A:Option Addr) (c:Nat) (w:World):Calls prog 162 #[.slice A 1 c,.int .i64 0,.int .i64 1,.func (.func 92) #[] #[]] w fun e w'=>e= .returned (.tuple #[])∧w=w':=by
 go_enter func162,ntmps162
 go_wp2_with fail
 refine wp_loop_rounds 1 ?_;rw [rounds_succ];go_wp2_with fail
 go_end0
 exact⟨rfl,rfl⟩
theorem Jt7 (A:Option Addr) (c:Nat) (w:World):Calls prog 127 #[.slice A 1 c,.int .i64 1,.func (.func 92) #[] #[]] w fun e w'=>e= .returned (.tuple #[])∧w=w':=by
 have HI:=hid (Jy3 A c w);go_enter func127,ntmps127
 go_wp2_with fail
 refine wp_loop_rounds 1 ?_;rw [rounds_succ];go_wp2_with fail
 refine HI.out.mono ?_;rintro e w2 ⟨rfl,rfl⟩;go_wp2_with fail
 refine wp_loop_rounds 1 ?_;rw [rounds_succ];go_wp2_with fail
 go_end0
 exact⟨rfl,rfl⟩
theorem Jxz (A:Option Addr) (c:Nat) (w:World):Calls prog 91 #[.slice A 1 c,.func (.func 92) #[] #[]] w fun e w'=>e= .returned (.tuple #[])∧w=w':=by
 have HI:=hid (Jt7 A c w);go_enter func91,ntmps91
 go_wp2_with fail
 refine HI.out.mono ?_;rintro e w2 ⟨rfl,rfl⟩;go_wp2_with fail
 go_end0
 exact⟨rfl,rfl⟩
theorem Jy4 (A:Option Addr) (c:Nat) (w:World):Calls prog 162 #[.slice A 0 c,.int .i64 0,.int .i64 0,.func (.func 92) #[] #[]] w fun e w'=>e= .returned (.tuple #[])∧w=w':=by
 go_enter func162,ntmps162
 go_wp2_with fail
 refine wp_loop_rounds 1 ?_;rw [rounds_succ];go_wp2_with fail
 go_end0
 exact⟨rfl,rfl⟩
theorem Juh (A:Option Addr) (c:Nat) (w:World):Calls prog 127 #[.slice A 0 c,.int .i64 0,.func (.func 92) #[] #[]] w fun e w'=>e= .returned (.tuple #[])∧w=w':=by
 have HI:=hid (Jy4 A c w);go_enter func127,ntmps127
 go_wp2_with fail
 refine wp_loop_rounds 1 ?_;rw [rounds_succ];go_wp2_with fail
 refine HI.out.mono ?_;rintro e w2 ⟨rfl,rfl⟩;go_wp2_with fail
 refine wp_loop_rounds 1 ?_;rw [rounds_succ];go_wp2_with fail
 go_end0
 exact⟨rfl,rfl⟩
theorem Jx3 (A:Option Addr) (c:Nat) (w:World):Calls prog 91 #[.slice A 0 c,.func (.func 92) #[] #[]] w fun e w'=>e= .returned (.tuple #[])∧w=w':=by
 have HI:=hid (Juh A c w);go_enter func91,ntmps91
 go_wp2_with fail
 refine HI.out.mono ?_;rintro e w2 ⟨rfl,rfl⟩;go_wp2_with fail
 go_end0
 exact⟨rfl,rfl⟩
theorem Jqg (gr cr:Nat) (w:World) (hr:Rw 59 w gr r1.cs):Calls prog 55 #[.slice (some ⟨gr,0,none⟩) 1 cr] w (RecsO w):=by
 have HC:=hid (tal.copy_rec (some ⟨gr,0,none⟩) 1 cr r1.cs w (fun j u hu=>⟨gr,0,rfl,hr.lt,by rw [Nat.zero_add];exact hr.at hu⟩) (fun h=>by cases h) (by decide) rfl r1.one);clear hr;go_enter func55,ntmps55
 go_wp2_with fail
 refine HC.out.mono ?_;rintro e w2 ⟨⟨A,c2,rfl,_,_,hown⟩,hb2⟩;obtain⟨g2,rfl,hg2,_,hr2⟩:=Jrv hown (by unfold tal.Rc.cs;simp);have y14:w2.cell? ⟨g2,14,none⟩=some (.slice none 0 0):=hr2.at (i:=14) rfl;have z14:=hr2.free 14;have HCl:=hid (Jek 0 0 w2);obtain⟨W3,hW3⟩:=words.nm (w2.setCell ⟨g2,14,none⟩ (.slice none 0 0));have HF:Hid (Rw 59 W3 g2 r1.cs∧Below w.heap.size w W3):=hid (by rw [hW3];exact⟨hr2.put 14 _ (show 14<19 by decide),hb2.setCell (p:=⟨g2,14,none⟩) hg2 _⟩);have HSo:=hid (Jxz (some ⟨g2,0,none⟩) c2 W3);have HW3:=hid hW3.symm;clear hW3 hown hg2 hr2 hb2 HC;go_wp2_with fail
 refine wp_loop_rounds 2 ?_;rw [rounds_succ];go_wp2_with fail
 refine HCl.out.mono ?_;rintro e w9 ⟨rfl,rfl⟩;go_upto_region 6 with fail
 rw [HW3.out];clear HW3 y14 z14 HCl;go_wp2_with fail
 rw [rounds_succ];go_wp2_with fail
 refine HSo.out.mono ?_;rintro e w9 ⟨rfl,rfl⟩;go_wp2_with fail
 go_ret
 exact⟨g2,c2,rfl,HF.out⟩
theorem Joj (A:Option Addr) (c:Nat) (hA:A=none→c=0) (w:World):Calls prog 55 #[.slice A 0 c] w fun e w'=>(∃A' c',e= .returned (.slice A' 0 c'))∧Below w.heap.size w w':=by
 have HC:=hid (tal.copy_rec A 0 c [] w (fun j u hu=>(by simp at hu)) (fun h=>⟨rfl,hA h⟩) (by decide) rfl (fun u hu=>by cases hu));clear hA;go_enter func55,ntmps55
 go_wp2_with fail
 refine HC.out.mono ?_;rintro e w2 ⟨⟨A2,c2,rfl,_,_,_⟩,hb2⟩;have HB2:=hid hb2;have HSo:=hid (Jx3 A2 c2 w2);clear hb2 HC;go_wp2_with fail
 refine wp_loop_rounds 1 ?_;rw [rounds_succ];go_wp2_with fail
 refine HSo.out.mono ?_;rintro e w9 ⟨rfl,rfl⟩;go_wp2_with fail
 go_ret
 exact⟨⟨A2,c2,rfl⟩,HB2.out⟩
theorem Jqp {B s t m:Nat} {ad ep r n:Int} {L:List (Nat×Int)} (gr cr:Nat) (w:World) (hr:Rw 59 w gr r1.cs) (hs:tal.Sp B s t m none 0 L ad ep r n [] w):
  Calls prog 53 #[.iface 80 (.pointer (some ⟨s,0,none⟩)),.slice (some ⟨gr,0,none⟩) 1 cr] w fun e w'=>e= .returned (.int .i64 (-1))∧Below w.heap.size w w':=by
 have HR0:Hid (w.rangeAt gr 0 r1.cs):=hid fun j v hv=>by rw [Nat.zero_add];exact hr.at hv
 obtain⟨W1,hW1⟩:=words.nm (w.alloc (.cells #[.int .i64 r1.cl,.int .i64 r1.ix,.int .i64 r1.k,.string r1.p,.int .i64 r1.o,.int .i64 r1.n,.int .i64 r1.i,.string r1.g,.int .i64 r1.e,.int .i64 r1.rk,.int .i64 r1.z,.int .i64 r1.wh,.int .i64 r1.id,.string r1.x,.slice r1.A r1.N.length r1.c,.bool r1.fin,.int .i64 r1.ca,.int .i64 r1.ma,.int .i64 r1.re] 59));obtain⟨hx0,hb1⟩:=stp.new hW1;have hx:W1.heap[w.heap.size]?=some (.cells #[.int .i64 0,.int .i64 0,.int .i64 7,.string ⟨#[]⟩,.int .i64 0,.int .i64 0,.int .i64 5,.string ⟨#[]⟩,.int .i64 9,.int .i64 0,.int .i64 0,.int .i64 0,.int .i64 0,.string ⟨#[]⟩,.slice none 0 0,.bool false,.int .i64 1,.int .i64 1,.int .i64 1] 59 (0,0)):=hx0;clear hx0;obtain⟨g,hg⟩:=words.nm (w.heap.size);rw [←hg] at hx;have HG:=hid hg;clear hg;have HC:Hid (∀w',Below W1.heap.size W1 w'→w'.cell? ⟨g,17,none⟩=some (.int .i64 1)∧w'.cell? ⟨g,16,none⟩=some (.int .i64 1)∧w'.cell? ⟨g,18,none⟩=some (.int .i64 1)∧(w'.cell? ⟨g,2,none⟩=some (.int .i64 7)∧w'.cell? ⟨g,3,none⟩=some (.string ⟨#[]⟩)∧w'.cell? ⟨g,4,none⟩=some (.int .i64 0)∧w'.cell? ⟨g,5,none⟩=some (.int .i64 0)∧w'.cell? ⟨g,6,none⟩=some (.int .i64 5)∧w'.cell? ⟨g,7,none⟩=some (.string ⟨#[]⟩)∧w'.cell? ⟨g,8,none⟩=some (.int .i64 9)∧w'.cell? ⟨g,9,none⟩=some (.int .i64 0)∧w'.cell? ⟨g,10,none⟩=some (.int .i64 0)∧w'.cell? ⟨g,11,none⟩=some (.int .i64 0)∧w'.cell? ⟨g,12,none⟩=some (.int .i64 0)∧w'.cell? ⟨g,13,none⟩=some (.string ⟨#[]⟩)∧w'.cell? ⟨g,14,none⟩=some (.slice none 0 0)∧w'.cell? ⟨g,15,none⟩=some (.bool false))):=hid fun w' hb=>by
  have e:=stp.old hb hx;exact⟨Jaa e 17,Jaa e 16,Jaa e 18,Jaa e 2,Jaa e 3,Jaa e 4,Jaa e 5,Jaa e 6,Jaa e 7,Jaa e 8,Jaa e 9,Jaa e 10,Jaa e 11,Jaa e 12,Jaa e 13,Jaa e 14,Jaa e 15⟩
 have HB1:=hid hb1;have HBd:Hid (Below W1.heap.size W1 W1.drew):=hid (Below.refl _ _).drew;have HDo:Hid (∀w',Below W1.heap.size W1 w'→Calls prog 158 #[.pointer (some ⟨s,0,none⟩),.agg #[.int .i64 7,.string ⟨#[]⟩,.int .i64 0,.int .i64 0,.int .i64 5,.string ⟨#[]⟩]] w' fun e w''=>e= .returned (.agg #[.int .i64 9,.int .i64 0,.int .i64 0,.int .i64 0,.int .i64 0,.string ⟨#[]⟩,.slice none 0 0,.bool false])∧Below w'.heap.size w' w''):=hid fun w' hb=>tal.do_close ⟨#[]⟩ 0 0 5 ⟨#[]⟩ ((hs.later hb1).later hb) (by decide) (show (Lit.int .i64 5).wf=true by decide) rfl;have hm:=fun w=>tal.m_do ⟨s,0,none⟩ w;have HSm:Hid (∀w',Calls prog 89 #[.agg #[.int .i64 9,.int .i64 0,.int .i64 0,.int .i64 0,.int .i64 0,.string ⟨#[]⟩,.slice none 0 0,.bool false],.agg #[.int .i64 9,.int .i64 0,.int .i64 0,.int .i64 0,.int .i64 0,.string ⟨#[]⟩,.slice none 0 0,.bool false]] w' fun en w''=>en= .returned (.bool true)∧Below w'.heap.size w' w''):=hid fun w'=>tal.same_bare (x:=r1) (e:=9) (b:=true) rfl (by decide) w';have HW:=hid hW1.symm;clear hr hs hx hb1 hW1;go_enter func53,ntmps53
 go_wp2_with fail
 refine wp_loop_rounds 2 ?_;rw [rounds_succ];go_upto_region 5 with (first |(refine tal.wl_load rfl rfl rfl HR0.out ?_) |(refine tal.wl_put (r:=r1) rfl rfl rfl rfl rfl ?_))
 rw [HW.out];simp only [←HG.out];clear HW HR0;refine held.wpT_start (S:=fun w'=>Below W1.heap.size W1 w') (T:=fun _=>false) (by kernel_rfl) ?_;refine stp.tk 0 15 ?_;refine stp.ld 1 16 (HBd.out) ?_ (hv:=by intro w' h;obtain⟨c17,c16,c18,c2,c3,c4,c5,c6,c7,c8,c9,c10,c11,c12,c13,c14,c15⟩:=HC.out w' h;clear h;go_simp;(try with_reducible rfl));refine stp.tk 2 17 ?_;refine stp.tk 3 18 ?_;refine stp.tk 4 19 ?_;refine stp.tk 5 20 ?_;refine stp.ld 6 21 (HBd.out) ?_ (hv:=by intro w' h;obtain⟨c17,c16,c18,c2,c3,c4,c5,c6,c7,c8,c9,c10,c11,c12,c13,c14,c15⟩:=HC.out w' h;clear h;go_simp;(try with_reducible rfl));refine stp.tk 7 22 ?_;refine stp.ld 8 23 (HBd.out) ?_ (hv:=by intro w' h;obtain⟨c17,c16,c18,c2,c3,c4,c5,c6,c7,c8,c9,c10,c11,c12,c13,c14,c15⟩:=HC.out w' h;clear h;go_simp;(try with_reducible rfl));refine stp.tk 9 24 ?_;refine stp.tk 10 25 ?_;refine stp.tk 11 26 ?_;refine stp.tk 12 27 ?_;refine stp.ld 13 28 (HBd.out) ?_ (hv:=by intro w' h;obtain⟨c17,c16,c18,c2,c3,c4,c5,c6,c7,c8,c9,c10,c11,c12,c13,c14,c15⟩:=HC.out w' h;clear h;go_simp;(try with_reducible rfl));refine stp.tk 14 29 ?_;refine stp.ld 15 30 (HBd.out) ?_ (hv:=by intro w' h;obtain⟨c17,c16,c18,c2,c3,c4,c5,c6,c7,c8,c9,c10,c11,c12,c13,c14,c15⟩:=HC.out w' h;clear h;go_simp;(try with_reducible rfl));refine stp.tk 16 31 ?_;refine stp.tk 17 32 ?_;refine stp.tk 18 33 ?_;refine stp.tk 19 34 ?_;refine stp.ld 20 35 (HBd.out) ?_ (hv:=by intro w' h;obtain⟨c17,c16,c18,c2,c3,c4,c5,c6,c7,c8,c9,c10,c11,c12,c13,c14,c15⟩:=HC.out w' h;clear h;go_simp;(try with_reducible rfl));refine stp.tk 21 36 ?_;refine stp.tk 22 37 ?_;refine stp.ld 23 38 (HBd.out) ?_ (hv:=by intro w' h;obtain⟨c17,c16,c18,c2,c3,c4,c5,c6,c7,c8,c9,c10,c11,c12,c13,c14,c15⟩:=HC.out w' h;clear h;go_simp;(try with_reducible rfl));refine held.wpT_one (i:=24) (by kernel_rfl) rfl (fun Kc hK=>?_);go_simp
 go_at_call 158
 refine (HDo.out _ HBd.out).mono ?_;rintro en w3 ⟨rfl,hb3⟩;have HB3:=hid (HBd.out.trans (hb3.mono HBd.out.size));clear hb3 HDo;refine hK.out _ _ (fun _ _=>HB3.out) ?_;clear hK;try simp only [stp.pt]
 refine held.wpT_one (i:=25) (by kernel_rfl) rfl (fun Kc hK=>?_);go_simp
 go_at_call 89
 refine (HSm.out w3).mono ?_;rintro en w4 ⟨rfl,hb4⟩;have HB4:=hid (HB3.out.trans (hb4.mono HB3.out.size));clear hb4 HSm;refine hK.out _ _ (fun _ _=>HB4.out) ?_;clear hK;try simp only [stp.pt]
 refine stp.tk 26 41 ?_;refine stp.tk 27 42 ?_;refine held.wpT_done (by kernel_rfl) ?_ _;have c17:=(HC.out w4 HB4.out).1;clear hm;go_wp2_with fail
 rw [rounds_succ];go_wp2_with fail
 go_ret
 exact⟨rfl,HB1.out.trans (HB4.out.mono HB1.out.size)⟩
theorem Jov (who:Value) (A:Option Addr) (c:Nat) (w:World):Calls prog 53 #[who,.slice A 0 c] w fun e w'=>e= .returned (.int .i64 (-1))∧w=w':=by
 go_enter func53,ntmps53
 go_wp2_with fail
 refine wp_loop_rounds 1 ?_;rw [rounds_succ];go_wp2_with fail
 go_ret
 exact⟨rfl,rfl⟩
theorem Jqq (room:Int) (gr cr:Nat) (w:World) (hr:Rw 59 w gr r1.cs):Calls prog 23 #[.agg #[.slice none 0 0,.int .i64 0],.int .i64 room,.slice (some ⟨gr,0,none⟩) 1 cr] w fun e w'=>e= .returned (.int .i64 (-1))∧Below w.heap.size w w':=by
 obtain⟨W1,hW1⟩:=words.nm (w.alloc (.cells #[.slice none 0 0,.int .i64 0] 38));obtain⟨hx,hb1⟩:=stp.new hW1;obtain⟨g,hg⟩:=words.nm (w.heap.size);rw [←hg] at hx;have HG:=hid hg;clear hg;obtain⟨s0,s1⟩:=stp.cs2 hx;have HN:=hid (tal.snew_any none 0 [] 0 room (min (max room 1) 1024) W1 rfl);have HB1:=hid hb1;have HW:=hid hW1.symm;have HO:Hid (∀w',Below w.heap.size w w'→Calls prog 55 #[.slice (some ⟨gr,0,none⟩) 1 cr] w' (RecsO w')):=hid fun w' hb=>Jqg gr cr w' (hr.later hb);clear hr;clear hx hb1 hW1;go_enter func23,ntmps23
 go_upto_region 1 with fail
 rw [HW.out];simp only [←HG.out];clear HW;go_wp2_with fail
 refine HN.out.mono ?_;rintro e w2 ⟨s,t,m,rfl,hsp,hb2⟩;have HB2:=hid (HB1.out.trans (hb2.mono HB1.out.size));have HSp:=hid hsp;have HO2:=hid (HO.out w2 HB2.out);clear hsp hb2 HN HO s0 s1;go_wp2_with fail
 refine HO2.out.mono ?_;rintro e w3 ⟨gr,cr,rfl,hr3,hb3⟩;have HF:=hid (Jqp gr cr w3 hr3 (HSp.out.later hb3));have HB3:=hid (HB2.out.trans (hb3.mono HB2.out.size));clear hb3 hr3 HO2 HSp;go_wp2_with fail
 refine HF.out.mono ?_;rintro e w4 HP;obtain⟨rfl,hb4⟩:=HP;have HB4:=hid (HB3.out.trans (hb4.mono HB3.out.size));clear hb4 HF;go_wp2_with fail
 go_ret
 exact⟨rfl,HB4.out⟩
theorem Jo1 (As:Option Addr) (cs:Nat) (L:List (Nat×Int)) (ad room:Int) (A:Option Addr) (c:Nat) (hA:A=none→c=0) (w:World):Calls prog 23 #[.agg #[.slice As L.length cs,.int .i64 ad],.int .i64 room,.slice A 0 c] w fun e w'=>e= .returned (.int .i64 (-1))∧Below w.heap.size w w':=by
 obtain⟨W1,hW1⟩:=words.nm (w.alloc (.cells #[.slice As L.length cs,.int .i64 ad] 38));obtain⟨hx,hb1⟩:=stp.new hW1;obtain⟨g,hg⟩:=words.nm (w.heap.size);rw [←hg] at hx;have HG:=hid hg;clear hg;obtain⟨s0,s1⟩:=stp.cs2 hx;have HN:=hid (tal.snew_any As cs L ad room (min (max room 1) 1024) W1 rfl);have HB1:=hid hb1;have HW:=hid hW1.symm;have HO:Hid (∀w',Below w.heap.size w w'→Calls prog 55 #[.slice A 0 c] w' fun e w''=>(∃A' c',e= .returned (.slice A' 0 c'))∧Below w'.heap.size w' w''):=hid fun w' _=>Joj A c hA w';clear hA;clear hx hb1 hW1;go_enter func23,ntmps23
 go_upto_region 1 with fail
 rw [HW.out];simp only [←HG.out];clear HW;go_wp2_with fail
 refine HN.out.mono ?_;rintro e w2 ⟨s,t,m,rfl,hsp,hb2⟩;have HB2:=hid (HB1.out.trans (hb2.mono HB1.out.size));have HSp:=hid hsp;have HO2:=hid (HO.out w2 HB2.out);clear hsp hb2 HN HO s0 s1;go_wp2_with fail
 refine HO2.out.mono ?_;rintro e w3 ⟨⟨A',c',rfl⟩,hb3⟩;have HF:=hid ((Jov (.iface 80 (.pointer (some ⟨s,0,none⟩))) A' c' w3).mono fun e w4 (h:e= .returned (.int .i64 (-1))∧w3=w4)=>(⟨h.1,by rw [←h.2];exact Below.refl _ _⟩:e= .returned (.int .i64 (-1))∧Below w3.heap.size w3 w4));have HB3:=hid (HB2.out.trans (hb3.mono HB2.out.size));clear hb3 HO2 HSp;go_wp2_with fail
 refine HF.out.mono ?_;rintro e w4 HP;obtain⟨rfl,hb4⟩:=HP;have HB4:=hid (HB3.out.trans (hb4.mono HB3.out.size));clear hb4 HF;go_wp2_with fail
 go_ret
 exact⟨rfl,HB4.out⟩
end Go.Proofs.YtekekhgjobahaaaGreatDoor.rep

namespace Go.Proofs.YtekekhgjobahaaaGreatDoor.rep
open Go.RowKit words cal scr
theorem Jnq (m:Int) (T:ByteArray) (b:Nat) (w:World) (hT:T.size≤900000) (hE:Env m w) (hp:parseS T.data.toList= .inr b) (hb0:b≠0):
  Calls prog 8 #[.string T] w fun e w'=>e= .returned (.agg #[.int .i64 (b:Int),.int .i64 10,.slice none 0 0,.int .i64 (-1),.int .i64 0,.slice none 0 0,.int .i64 0,.int .i64 0])∧Below w.heap.size w w':=by
 obtain⟨W1,hW1⟩:=words.nm (w.alloc (.cells #[.int .i64 0,.int .i64 0,.slice none 0 0,.int .i64 0,.int .i64 0,.slice none 0 0,.int .i64 0,.int .i64 0] 40));obtain⟨hx,hb1⟩:=stp.new hW1;obtain⟨rb,hrb⟩:∃g,g=w.heap.size:=⟨_,rfl⟩
 rw [←hrb] at hx;have HG:=hid hrb;have HB1:=hid hb1;have HX:=hid hx;have HW:=hid hW1.symm;have HP:Hid (Calls prog 7 #[.string T] W1 fun e w'=>e= .returned (.tuple #[.agg #[.int .i64 0,.int .i64 0,.int .i64 0,.slice none 0 0,.slice none 0 0,.slice none 0 0],.int .i64 (b:Int)])∧Below W1.heap.size W1 w'):=hid ((Jc2 m T W1 hT (hE.later hb1)).mono fun e w' ho=>by
   obtain⟨ho,hb⟩:=ho;rcases ho with⟨S,vi,vc,vp,h1,_⟩ |⟨b',h1,h2⟩
   ·rw [hp] at h1;cases h1
   ·rw [hp] at h1
    injection h1 with h1;subst h1;exact⟨h2,hb⟩)
 have gb:((b:Int) !=0)=true:=by rw [bne_iff_ne];omega
 clear hW1 hx hb1 hrb hE hp hb0;go_enter func8,ntmps8
 go_upto_region 1 with fail
 rw [HW.out];simp only [←HG.out];clear HW;go_wp2_with fail
 refine HP.out.mono ?_;rintro e w2 ⟨rfl,hb2⟩;obtain⟨W3,hW3⟩:=words.nm (w2.alloc (.cells #[.int .i64 0,.int .i64 0,.int .i64 0,.slice none 0 0,.slice none 0 0,.slice none 0 0] 31));have HB3:=hid (hb2.trans ((stp.new hW3).2.mono hb2.size));have HW3:=hid hW3.symm;clear hb2 hW3 HP;go_upto_region 2 with (refine stp.wl_put (vs:=[.int .i64 0,.int .i64 0,.int .i64 0,.slice none 0 0,.slice none 0 0,.slice none 0 0]) (zs:=[.int .i64 0,.int .i64 0,.int .i64 0,.slice none 0 0,.slice none 0 0,.slice none 0 0]) rfl rfl rfl rfl rfl rfl (by kernel_rfl) (by simp [Value.oneCell']) ?_)
 rw [HW3.out];clear HW3;have ex:=stp.old HB3.out HX.out;have HTh:=hid (stp.there (cs:=[.int .i64 0,.int .i64 0,.slice none 0 0,.int .i64 0,.int .i64 0,.slice none 0 0,.int .i64 0,.int .i64 0]) ex (show 0+8≤8 by decide));obtain⟨V4,hV4⟩:∃V,V=World.setCells W3 rb 0 [.int .i64 (b:Int),.int .i64 10,.slice none 0 0,.int .i64 (-1),.int .i64 0,.slice none 0 0,.int .i64 0,.int .i64 0]:=⟨_,rfl⟩
 have hy:V4.heap[rb]?=some (.cells #[.int .i64 (b:Int),.int .i64 10,.slice none 0 0,.int .i64 (-1),.int .i64 0,.slice none 0 0,.int .i64 0,.int .i64 0] 40 (0,0)):=by rw [hV4];exact stp.put (cs:=[.int .i64 0,.int .i64 0,.slice none 0 0,.int .i64 0,.int .i64 0,.slice none 0 0,.int .i64 0,.int .i64 0]) ex 0 _ (show 0+8≤8 by decide)
 have hbv:Below w.heap.size w V4:=by rw [hV4];exact stp.below_cells (by rw [HG.out];exact Nat.le_refl _) _ _ _ (HB1.out.trans (HB3.out.mono HB1.out.size))
 have HV:=hid hV4.symm;have HY:=hid hy;have HBv:=hid hbv;clear ex hV4 hy hbv;go_wp2_with (refine wpList_store_mid rfl 40 _ _ rfl rb 0 _ rfl rfl HTh.out (by kernel_rfl) (by simp [Value.oneCell']) ?_;rw [HV.out])
 obtain⟨p0,p1,p2,p3,p4,p5,p6,p7⟩:=stp.cs8 HY.out;exact bodyPost_ret (v:= .agg #[.int .i64 (b:Int),.int .i64 10,.slice none 0 0,.int .i64 (-1),.int .i64 0,.slice none 0 0,.int .i64 0,.int .i64 0]) (by simp [results,results8,go_sem,p0,p1,p2,p3,p4,p5,p6,p7]) rfl ⟨rfl,HBv.out⟩
theorem Jsg (m:Int) (T:ByteArray) (b:Nat) (w:World) (hT:T.size≤900000) (hE:Env m w) (hp:parseS T.data.toList= .inr b) (hb0:b≠0) (hb1:b≤1000000):
  Calls prog 9 #[.string T] w (StrOut (errT b 10) w):=by
 have HP:=hid (Jnq m T b w hT hE hp hb0);have HT:Hid (∀w',Below w.heap.size w w'→Calls prog 16 #[.agg #[.int .i64 (b:Int),.int .i64 10,.slice none 0 0,.int .i64 (-1),.int .i64 0,.slice none 0 0,.int .i64 0,.int .i64 0]] w' (StrOut (errT b 10) w')):=hid fun w' hb=>Jmh m (b:Int) 10 (-1) 0 0 0 [] none none 0 0 0 w' (hE.later hb) (by decide) ⟨by omega,by omega⟩ (by unfold I64;omega);clear hE hp hb0 hb1;go_enter func9,ntmps9
 go_wp2_with fail
 refine HP.out.mono ?_;rintro e w2 ⟨rfl,hb2⟩;have HT2:=hid (HT.out w2 hb2);have HB2:=hid hb2;clear hb2 HT HP;go_wp2_with fail
 refine HT2.out.mono ?_;rintro e w3 ⟨⟨r,rfl,hr⟩,hb3⟩;have HF:Hid (StrOut (errT b 10) w (.returned (.string r)) w3):=hid ⟨⟨r,rfl,hr⟩,HB2.out.trans (hb3.mono HB2.out.size)⟩;clear hr hb3 HT2;go_wp2_with fail
 go_ret
 exact HF.out
theorem Joa (A:Option Addr) (c:Nat) (w:World):Calls prog 21 #[.slice A 0 c] w fun e w'=>e= .returned (.tuple #[.agg #[.slice none 0 0,.int .i64 0],.int .i64 0])∧Below w.heap.size w w':=by
 obtain⟨W1,hW1⟩:=words.nm (w.alloc (.cells #[.slice none 0 0,.int .i64 0] 38));obtain⟨hx,hb1⟩:=stp.new hW1;obtain⟨g,hg⟩:=words.nm (w.heap.size);rw [←hg] at hx;obtain⟨W2,hW2⟩:=words.nm (W1.alloc (.cells #[.slice none 0 0,.int .i64 0] 38));obtain⟨hx2,hb2⟩:=stp.new hW2;obtain⟨g2,hg2⟩:∃q,q=g+1:=⟨_,rfl⟩
 rw [show W1.heap.size=g2 by rw [hg2,hg,hW1];simp] at hx2;have hx12:=stp.old hb2 hx;obtain⟨c0,c1⟩:=stp.cs2 hx2;have HTh:=hid (stp.there (cs:=[.slice none 0 0,.int .i64 0]) hx12 (show 0+2≤2 by decide));obtain⟨V,hV⟩:=words.nm (World.setCells W2 g 0 [.slice none 0 0,.int .i64 0]);have HY:Hid (V.heap[g]?=some (.cells #[.slice none 0 0,.int .i64 0] 38 (0,0))):=hid (by rw [hV];exact stp.put (cs:=[.slice none 0 0,.int .i64 0]) hx12 0 _ (show 0+2≤2 by decide));have HBv:Hid (Below w.heap.size w V):=hid (by rw [hV];exact stp.below_cells (by rw [hg];exact Nat.le_refl _) _ _ _ (hb1.trans (hb2.mono hb1.size)));have HG:=hid hg;have HG2:=hid hg2;have HW:=hid hW1.symm;have HW2:=hid hW2.symm;have HV:=hid hV.symm;clear hg hb1 hW1 hx hx2 hb2 hW2 hg2 hx12 hV;go_enter func21,ntmps21
 go_upto_region 2 with fail
 rw [HW.out];simp only [←HG.out];rw [HW2.out];simp only [←HG2.out];clear HW HW2;go_wp2_with fail
 refine wp_loop_rounds 1 ?_;rw [rounds_succ];go_wp2_with (refine wpList_store_mid rfl 38 _ _ rfl g 0 _ rfl rfl HTh.out (by kernel_rfl) (by simp [Value.oneCell']) ?_;rw [HV.out])
 obtain⟨p0,p1⟩:=stp.cs2 HY.out;exact bodyPost_ret (v:= .tuple #[.agg #[.slice none 0 0,.int .i64 0],.int .i64 0]) (by simp [results,results21,go_sem,p0,p1]) rfl ⟨rfl,HBv.out⟩
def scbA:ScB:=⟨1,1,1,[],[[o1]],[]⟩
def stA:ByteArray:=⟨#[114,111,111,109,32,49,32,49,32,49,10,99,108,105,101,110,116,10,99,108,111,115,101,32,53,10]⟩
theorem fitsA:Fits scbA.m:=⟨by decide,by decide,by decide,fun _ h=>(by cases h),fun ops ho o hm=>by
  obtain rfl:ops=[o1.m]:=by simpa [scbA,ScB.m] using ho
  obtain rfl:o=o1.m:=by simpa using hm
  exact⟨by decide,by decide,by decide⟩,fun ops ho o hm=>by
  obtain rfl:ops=[o1.m]:=by simpa [scbA,ScB.m] using ho
  obtain rfl:o=o1.m:=by simpa using hm
  decide+kernel⟩
theorem roomA:roomL scbA.m=[114,111,111,109,32,49,32,49,32,49]:=by
 unfold roomL scbA ScB.m;simp only [List.map_cons,List.map_nil];rw [Jam (by decide) (by decide)];rfl
theorem Jjm:parseS stA.data.toList= .inl scbA.m:=by
 have h:printM scbA.m=stA.data.toList:=by
  unfold printM linesM;rw [roomA];show textT ([114,111,111,109,32,49,32,49,32,49]::([]++[clientW,textM o1.m]++[]))=_;rw [Jqh];rfl
 rw [←h];exact Jdu fitsA
theorem Jqo:parseS (⟨#[120,10]⟩:ByteArray).data.toList= .inr 1:=by
 have h3:takeM rd0 [120]=none:=by
  have hc:cutL [120]=([120],[],false):=Jf9 (by decide);unfold takeM;rw [if_pos (show rd0.k=0 from rfl),hc,if_neg (by decide)]
 have hs:spl 10 (⟨#[120,10]⟩:ByteArray).data.toList=[]++[[120],[]]:=by decide+kernel
 unfold parseS;rw [hs,Jl7 (ls:=[]) (r:=rd0) (r':=rd0) (by rfl) h3];rfl
def OneO (w:World) (e:Ending) (w':World):Prop:=∃g2 c9,e= .returned (.agg #[.int .i64 0,.int .i64 0,.slice (some ⟨g2,0,none⟩) 1 c9,.int .i64 (-1),.int .i64 0,.slice none 0 0,.int .i64 0,.int .i64 0])∧Rw 59 w' g2 r1.cs∧Below w.heap.size w w'
theorem Jsx (m:Int) (w:World) (hE:Env m w):Calls prog 8 #[.string stA] w (OneO w):=by
 obtain⟨W1,hW1⟩:=words.nm (w.alloc (.cells #[.int .i64 0,.int .i64 0,.slice none 0 0,.int .i64 0,.int .i64 0,.slice none 0 0,.int .i64 0,.int .i64 0] 40));obtain⟨hx,hb1⟩:=stp.new hW1;obtain⟨rb,hrb⟩:∃g,g=w.heap.size:=⟨_,rfl⟩
 rw [←hrb] at hx;have HG:=hid hrb;have HB1:=hid hb1;have HX:=hid hx;have HW:=hid hW1.symm;have HP:Hid (Calls prog 7 #[.string stA] W1 fun e w'=>(∃Ai ci b off cc Ap cp b2 off2 c2,e= .returned (.tuple #[.agg #[.int .i64 1,.int .i64 1,.int .i64 1,.slice Ai 0 ci,.slice (some ⟨b,off,none⟩) 1 cc,.slice Ap 0 cp],.int .i64 0])∧w'.cell? ⟨b,off,none⟩=some (.slice (some ⟨b2,off2,none⟩) 1 c2)∧b<w'.heap.size∧tal.Lies w' (some ⟨b2,off2,none⟩) opC∧1≤cc)∧Below W1.heap.size W1 w'):=hid ((Jc2 m stA W1 (by decide) (hE.later hb1)).mono fun e w' ho=>by
   obtain⟨ho,hb⟩:=ho;refine⟨?_,hb⟩;rcases ho with⟨S,vi,vc,vp,h1,h2,hown,_⟩ |⟨b',h1,_⟩
   ·rw [Jjm] at h1
    injection h1 with h1;have hS:=Jqv h1;subst hS;obtain⟨vs,q1,_⟩:=hown.cl;obtain⟨Ac0,cc0,e0,e1,_⟩:=tal.own_facts q1;obtain⟨Ai,ci,Ac,cc,Ap,cp,rfl,rfl,rfl,hsc⟩:=hown.form;injection e0 with _ _ e0;subst e0;obtain⟨b,off,A2,c2,rfl,h3,h4,h5⟩:=hsc.cl 0 [o1] rfl;obtain⟨b2,off2,rfl,h6,h7⟩:=h5 0 o1 rfl;refine⟨Ai,ci,b,off,cc,Ap,cp,b2,off2,c2,h2,by rw [Nat.add_zero] at h4;exact h4,h3,fun j u hu=>⟨b2,off2,rfl,h6,?_⟩,e1⟩;have:=h7 j u hu;rw [Nat.zero_mul,Nat.add_zero] at this;exact this
   ·rw [Jjm] at h1;cases h1)
 have HE:=hid (hE.later hb1);clear hW1 hx hb1 hrb hE;unfold stA at HP ⊢;go_enter func8,ntmps8
 go_upto_region 1 with fail
 rw [HW.out];simp only [←HG.out];clear HW;go_wp2_with fail
 refine HP.out.mono ?_;rintro e w2 ⟨⟨Ai,ci,b,off,cc,Ap,cp,b2,off2,c2,rfl,hcell,hblt,hlies,hcc⟩,hb2⟩;obtain⟨W3,hW3⟩:=words.nm (w2.alloc (.cells #[.int .i64 1,.int .i64 1,.int .i64 1,.slice Ai 0 ci,.slice (some ⟨b,off,none⟩) 1 cc,.slice Ap 0 cp] 31));obtain⟨hx3,hb3⟩:=stp.new hW3;obtain⟨g3,hg3⟩:∃g,g=w2.heap.size:=⟨_,rfl⟩
 rw [←hg3] at hx3;have HG3:=hid hg3;have HX3:=hid hx3;have HB2:=hid hb2;have HB3:=hid (hb2.trans (hb3.mono hb2.size));have HB23:=hid hb3;have HPl:Hid (∀w',Below w2.heap.size w2 w'→Calls prog 22 #[.agg #[.slice none 0 0,.int .i64 0],.agg #[.int .i64 1,.int .i64 1,.int .i64 1],.slice (some ⟨b,off,none⟩) 1 cc,.slice Ap 0 cp] w' (PlayO w')):=hid fun w' hb=>Juv b off cc b2 off2 c2 Ap cp w' ((hb.cell (p:=⟨b,off,none⟩) hblt).trans hcell) (fun j u hu=>by
   obtain⟨b',o',e1,e2,e3⟩:=hlies j u hu;exact⟨b',o',e1,Nat.lt_of_lt_of_le e2 hb.size,(hb.cell (p:=⟨b',o'+j,none⟩) e2).trans e3⟩) hcc
 have HW3:=hid hW3.symm;clear hb2 hW3 hx3 hb3 hg3 hcell hblt hlies hcc HP;go_upto_region 2 with (refine stp.wl_put (vs:=[.int .i64 1,.int .i64 1,.int .i64 1,.slice Ai 0 ci,.slice (some ⟨b,off,none⟩) 1 cc,.slice Ap 0 cp]) (zs:=[.int .i64 0,.int .i64 0,.int .i64 0,.slice none 0 0,.slice none 0 0,.slice none 0 0]) rfl rfl rfl rfl rfl rfl (by kernel_rfl) (by simp [Value.oneCell']) ?_)
 rw [HW3.out];simp only [←HG3.out];clear HW3;have HSk:=hid (Joa Ai ci W3);obtain⟨s0,s1,s2,s3,s4,s5⟩:=stp.cs6 HX3.out;go_wp2_with fail
 refine HSk.out.mono ?_;rintro e w4 ⟨rfl,hb4⟩;obtain⟨W5,hW5⟩:=words.nm (w4.alloc (.cells #[.slice none 0 0,.int .i64 0] 38));obtain⟨hx5,hb5⟩:=stp.new hW5;obtain⟨g5,hg5⟩:∃g,g=w4.heap.size:=⟨_,rfl⟩
 rw [←hg5] at hx5;have HG5:=hid hg5;have HX5:=hid hx5;have HB35:=hid (hb4.trans (hb5.mono hb4.size));have HB5:=hid (HB3.out.trans (HB35.out.mono HB3.out.size));have HW5:=hid hW5.symm;have HX35:=hid (stp.old HB35.out HX3.out);clear hb4 hW5 hx5 hb5 hg5 HSk s0 s1 s2 s3 s4 s5;go_upto_region 5 with (refine stp.wl_put (vs:=[.slice none 0 0,.int .i64 0]) (zs:=[.slice none 0 0,.int .i64 0]) rfl rfl rfl rfl rfl rfl (by kernel_rfl) (by simp [Value.oneCell']) ?_)
 rw [HW5.out];simp only [←HG5.out];clear HW5;obtain⟨s0,s1,s2,s3,s4,s5⟩:=stp.cs6 HX35.out;obtain⟨t0,t1⟩:=stp.cs2 HX5.out;have HPl5:=hid (HPl.out W5 (HB23.out.trans (HB35.out.mono HB23.out.size)));go_wp2_with fail
 refine HPl5.out.mono ?_;rintro e w6 ⟨x,v,g2,c9,B,s,t,mm,rfl,hr6,hc1,hc2,hsp,hb6⟩;have HSp:=hid hsp;have HR6:=hid hr6;have HXv:=hid (And.intro hc1 hc2);have HB6:=hid (HB5.out.trans (hb6.mono HB5.out.size));have HX56:=hid (stp.old hb6 HX5.out);have HX36:=hid (stp.old hb6 HX35.out);clear hr6 hc1 hc2 hsp hb6 HPl5 HPl s0 s1 s2 s3 s4 s5 t0 t1;have HC:Hid (∀w',Below w6.heap.size w6 w'→(w'.cell? ⟨g5,0,none⟩=some (.slice none 0 0)∧w'.cell? ⟨g5,1,none⟩=some (.int .i64 0)∧w'.cell? ⟨g3,2,none⟩=some (.int .i64 1))∧w'.cell? ⟨x,0,none⟩=some (.pointer (some ⟨v,0,none⟩))∧w'.cell? ⟨v,0,none⟩=some (.pointer (some ⟨s,0,none⟩))∧w'.cell? ⟨s,0,none⟩=some (.slice none 0 0)∧w'.cell? ⟨s,1,none⟩=some (.int .i64 0)∧w'.cell? ⟨s,2,none⟩=some (.int .i64 0)∧w'.cell? ⟨s,3,none⟩=some (.pointer (some ⟨t,0,none⟩))):=hid fun w' hb=>by
  have e5:=stp.cs2 (stp.old hb HX56.out);have e3:=stp.cs6 (stp.old hb HX36.out);have es:=stp.cs4 (HSp.out.later hb).blk;exact⟨⟨e5.1,e5.2,e3.2.2.1⟩,(hb.cell (p:=⟨x,0,none⟩) (World.block_lt_of_cell? w6 _ HXv.out.1)).trans HXv.out.1,(hb.cell (p:=⟨v,0,none⟩) (World.block_lt_of_cell? w6 _ HXv.out.2)).trans HXv.out.2,es⟩
 have HBd:Hid (Below w6.heap.size w6 w6.drew):=hid (Below.refl _ _).drew;have HWr:Hid (∀w',Below w6.heap.size w6 w'→Calls prog 23 #[.agg #[.slice none 0 0,.int .i64 0],.int .i64 1,.slice (some ⟨g2,0,none⟩) 1 c9] w' fun e w''=>e= .returned (.int .i64 (-1))∧Below w'.heap.size w' w''):=hid fun w' hb=>Jqq 1 g2 c9 w' (HR6.out.later hb);have HLn:Hid (∀w',Below w6.heap.size w6 w'→Calls prog 24 #[.pointer (some ⟨t,0,none⟩)] w' fun e w''=>e= .returned (.int .i64 0)∧w'=w''):=hid fun w' hb=>cur.clen_any (h:=(HSp.out.later hb).tb);go_upto_region 8 with fail
 refine held.wpT_start (S:=fun w'=>Below w6.heap.size w6 w') (T:=fun k=>k==39) (by kernel_rfl) ?_;refine stp.tk 0 39 ?_;refine stp.ld 1 40 (HBd.out) ?_ (hv:=by intro w' h;obtain⟨⟨t0,t1,s2⟩,x0,v0,d0,d1,d2,d3⟩:=HC.out w' h;clear h;go_simp;(try with_reducible rfl));refine stp.tk 2 41 ?_;refine stp.tk 3 42 ?_;refine stp.ld 4 43 (HBd.out) ?_ (hv:=by intro w' h;obtain⟨⟨t0,t1,s2⟩,x0,v0,d0,d1,d2,d3⟩:=HC.out w' h;clear h;go_simp;(try with_reducible rfl));refine stp.tk 5 44 ?_;refine stp.tk 7 46 ?_;refine stp.tk 8 47 ?_;refine stp.tk 9 48 ?_;refine stp.ld 10 49 (HBd.out) ?_ (hv:=by intro w' h;obtain⟨⟨t0,t1,s2⟩,x0,v0,d0,d1,d2,d3⟩:=HC.out w' h;clear h;go_simp;(try with_reducible rfl));refine stp.tk 11 50 ?_;refine stp.tk 12 51 ?_;refine stp.ld 13 52 (HBd.out) ?_ (hv:=by intro w' h;obtain⟨⟨t0,t1,s2⟩,x0,v0,d0,d1,d2,d3⟩:=HC.out w' h;clear h;go_simp;(try with_reducible rfl));refine stp.tk 14 53 ?_;refine stp.tk 15 54 ?_;refine stp.ld 16 55 (HBd.out) ?_ (hv:=by intro w' h;obtain⟨⟨t0,t1,s2⟩,x0,v0,d0,d1,d2,d3⟩:=HC.out w' h;clear h;go_simp;(try with_reducible rfl));refine stp.tk 17 56 ?_;refine stp.tk 18 57 ?_;refine stp.tk 19 58 ?_;refine stp.ld 20 59 (HBd.out) ?_ (hv:=by intro w' h;obtain⟨⟨t0,t1,s2⟩,x0,v0,d0,d1,d2,d3⟩:=HC.out w' h;clear h;go_simp;(try with_reducible rfl));refine stp.tk 21 60 ?_;refine stp.tk 22 61 ?_;refine stp.ld 23 62 (HBd.out) ?_ (hv:=by intro w' h;obtain⟨⟨t0,t1,s2⟩,x0,v0,d0,d1,d2,d3⟩:=HC.out w' h;clear h;go_simp;(try with_reducible rfl));refine stp.tk 24 63 ?_;refine stp.tk 25 64 ?_;refine stp.ld 26 65 (HBd.out) ?_ (hv:=by intro w' h;obtain⟨⟨t0,t1,s2⟩,x0,v0,d0,d1,d2,d3⟩:=HC.out w' h;clear h;go_simp;(try with_reducible rfl));refine stp.tk 27 66 ?_;refine stp.tk 28 67 ?_;refine stp.tk 29 68 ?_;refine stp.ld 30 69 (HBd.out) ?_ (hv:=by intro w' h;obtain⟨⟨t0,t1,s2⟩,x0,v0,d0,d1,d2,d3⟩:=HC.out w' h;clear h;go_simp;(try with_reducible rfl));refine stp.tk 31 70 ?_;refine stp.tk 32 71 ?_;refine stp.ld 33 72 (HBd.out) ?_ (hv:=by intro w' h;obtain⟨⟨t0,t1,s2⟩,x0,v0,d0,d1,d2,d3⟩:=HC.out w' h;clear h;go_simp;(try with_reducible rfl));refine stp.tk 34 73 ?_;refine stp.tk 35 74 ?_;refine stp.ld 36 75 (HBd.out) ?_ (hv:=by intro w' h;obtain⟨⟨t0,t1,s2⟩,x0,v0,d0,d1,d2,d3⟩:=HC.out w' h;clear h;go_simp;(try with_reducible rfl));refine held.wpT_one (i:=6) (by kernel_rfl) rfl (fun Kc hK=>?_);go_simp
 go_at_call 23
 refine (HWr.out _ HBd.out).mono ?_;rintro en w7 ⟨rfl,hb7⟩;have HB7:=hid (HBd.out.trans (hb7.mono HBd.out.size));clear hb7 HWr;refine hK.out _ _ (fun _ _=>HB7.out) ?_;clear hK;try simp only [stp.pt]
 refine held.wpT_one (i:=37) (by kernel_rfl) rfl (fun Kc hK=>?_);go_simp
 go_at_call 24
 refine (HLn.out _ HB7.out).mono ?_;rintro en w8 ⟨rfl,rfl⟩;refine hK.out _ _ (fun _ _=>HB7.out) ?_;clear hK;try simp only [stp.pt]
 refine stp.tk 38 77 ?_;refine held.wpT_one (i:=39) (by kernel_rfl) rfl (fun Kc hK=>?_);have HB67:=hid (HB6.out.trans (HB7.out.mono HB6.out.size));have ex:=stp.old HB67.out HX.out;have HTh:=hid (stp.there (cs:=[.int .i64 0,.int .i64 0,.slice none 0 0,.int .i64 0,.int .i64 0,.slice none 0 0,.int .i64 0,.int .i64 0]) ex (show 0+8≤8 by decide));obtain⟨V9,hV9⟩:∃V,V=World.setCells w7 rb 0 [.int .i64 0,.int .i64 0,.slice (some ⟨g2,0,none⟩) 1 c9,.int .i64 (-1),.int .i64 0,.slice none 0 0,.int .i64 0,.int .i64 0]:=⟨_,rfl⟩
 have hy:V9.heap[rb]?=some (.cells #[.int .i64 0,.int .i64 0,.slice (some ⟨g2,0,none⟩) 1 c9,.int .i64 (-1),.int .i64 0,.slice none 0 0,.int .i64 0,.int .i64 0] 40 (0,0)):=by rw [hV9];exact stp.put (cs:=[.int .i64 0,.int .i64 0,.slice none 0 0,.int .i64 0,.int .i64 0,.slice none 0 0,.int .i64 0,.int .i64 0]) ex 0 _ (show 0+8≤8 by decide)
 have hbv:Below w.heap.size w V9:=by rw [hV9];exact stp.below_cells (by rw [HG.out];exact Nat.le_refl _) _ _ _ (HB1.out.trans (HB67.out.mono HB1.out.size))
 have HV:=hid hV9.symm;have HY:=hid hy;have HBv:=hid hbv;clear ex hV9 hy hbv;have hr9:Rw 59 V9 g2 r1.cs:=(HR6.out.later HB7.out).same (by rw [←HV.out];exact stp.put_other _ _ _ _ (by
   have h1:=HR6.out.lt;intro e;obtain⟨r1,h1⟩:=HR6.out;have h2:=stp.old HB6.out HX.out;exact Jas h1 h2 (by decide) e))
 have HR9:=hid hr9;clear hr9;rw [if_pos (by kernel_rfl)];refine wp_store_mid 40 _ _ rfl rb 0 _ rfl rfl HTh.out (by kernel_rfl) (by simp [Value.oneCell']) ?_;rw [HV.out];refine hK.out _ _ (fun h=>absurd h (by decide)) ?_;clear hK;try simp only
 refine held.wpT_done (by kernel_rfl) ?_ _;go_wp2_with fail
 obtain⟨p0,p1,p2,p3,p4,p5,p6,p7⟩:=stp.cs8 HY.out;exact bodyPost_ret (v:= .agg #[.int .i64 0,.int .i64 0,.slice (some ⟨g2,0,none⟩) 1 c9,.int .i64 (-1),.int .i64 0,.slice none 0 0,.int .i64 0,.int .i64 0]) (by simp [results,results8,go_sem,p0,p1,p2,p3,p4,p5,p6,p7]) rfl ⟨g2,c9,rfl,HR9.out,HBv.out⟩
theorem Jys:RcFit r1:=⟨⟨by decide,by decide⟩,⟨by decide,by decide⟩,⟨by decide,by decide⟩,⟨by decide,by decide⟩,⟨by decide,by decide⟩,⟨⟨by decide,by decide⟩,⟨by decide,by decide⟩,⟨by decide,by decide⟩,⟨by decide,by decide⟩,⟨by decide,by decide⟩,by decide,by decide,fun x hx=>by cases hx⟩,by decide⟩
def outA:ByteArray:=⟨#[48,32,48,32,49,32,49,32,49,32,101,114,114,111,114,32,57,10,101,110,100,32,48,32,48,32,48,10]⟩
theorem Jyv:repT [r1] (-1) 0 0 0=outA.data.toList:=by
 unfold repT lnM;rw [if_neg (by decide)];simp only [List.flatMap_cons,List.flatMap_nil,r1];unfold showM;rw [if_neg (by decide),Jam (n:=9) (by decide) (by decide),Jam (n:=0) (by decide) (by decide),Jam (n:=1) (by decide) (by decide),Jam (n:=((0:Nat):Int)) (by decide) (by decide)];rfl
theorem Jxw:errT ((1:Nat):Int) 10=[101,114,114,111,114,32,49,32,49,48,10]:=by
 unfold errT;rw [Jam (n:=((1:Nat):Int)) (by decide) (by decide),Jgk (n:=10) (p:=1) (d:=0) (by decide) (by decide) (by decide) (by decide),Jam (n:=1) (by decide) (by decide)];rfl
theorem Jw0 (m:Int) (w:World) (hE:Env m w):Calls prog 9 #[.string stA] w fun e w'=>e= .returned (.string outA)∧Below w.heap.size w w':=by
 have HP:=hid (Jsx m w hE);have HT:Hid (∀g2 c9 w',Rw 59 w' g2 r1.cs→Below w.heap.size w w'→Calls prog 16 #[.agg #[.int .i64 0,.int .i64 0,.slice (some ⟨g2,0,none⟩) 1 c9,.int .i64 (-1),.int .i64 0,.slice none 0 0,.int .i64 0,.int .i64 0]] w' (StrOut (repT [r1] (-1) 0 0 0) w')):=hid fun g2 c9 w' hr hb=>Jsc m 0 (-1) 0 0 0 [r1] (some ⟨g2,0,none⟩) none c9 0 0 w' (hE.later hb) (fun i r hi=>by
   rcases i with _ |i
   ·injection hi with hi
    subst hi;exact⟨g2,0,rfl,hr.lt,fun j u hu=>by have:=hr.at hu;simpa using this⟩
   ·simp at hi) (fun r hr=>by
   rw [List.mem_singleton.1 hr];exact fun i x hx=>by simp [r1] at hx) (fun r hr=>by rw [List.mem_singleton.1 hr];exact Jys) (by decide) (by unfold I64;omega) (by unfold I64;omega) (by unfold I64;omega) (by decide)
 clear hE;go_enter func9,ntmps9
 go_wp2_with fail
 refine HP.out.mono ?_;rintro e w2 ⟨g2,c9,rfl,hr2,hb2⟩;have HT2:=hid (HT.out g2 c9 w2 hr2 hb2);have HB2:=hid hb2;clear hb2 hr2 HT HP;go_wp2_with fail
 refine HT2.out.mono ?_;rintro e w3 ⟨⟨r,rfl,hr⟩,hb3⟩;have hrA:r=outA:=Jbd (by rw [hr,Jyv]);subst hrA;have HF:=hid (HB2.out.trans (hb3.mono HB2.out.size));clear hr hb3 HT2;go_wp2_with fail
 go_ret
 exact⟨rfl,HF.out⟩
theorem Jpg (m:Int) (w:World) (hE:Env m w):Calls prog 5 #[] w (AnsB true w):=by
 have HR1:=hid (Jw0 m w hE);have HR2:Hid (∀w',Below w.heap.size w w'→Calls prog 9 #[.string ⟨#[120,10]⟩] w' fun e w''=>e= .returned (.string ⟨#[101,114,114,111,114,32,49,32,49,48,10]⟩)∧Below w'.heap.size w' w''):=hid fun w' hb=>(Jsg m ⟨#[120,10]⟩ 1 w' (by decide) (hE.later hb) Jqo (by decide) (by decide)).mono fun e w'' h=>by
  obtain⟨⟨r,h1,h2⟩,h3⟩:=h;refine⟨?_,h3⟩;rw [h1];congr 2;exact Jbd (by rw [h2,Jxw])
 clear hE;unfold stA outA at HR1;go_enter func5,ntmps5
 go_wp2_with fail
 refine HR1.out.mono ?_;rintro e w2 ⟨rfl,hb2⟩;have HB2:=hid hb2;have HR3:=hid (HR2.out w2 hb2);clear hb2 HR2 HR1;go_wp2_with fail
 refine HR3.out.mono ?_;rintro e w3 ⟨rfl,hb3⟩;have HB3:=hid (HB2.out.trans (hb3.mono HB2.out.size));clear hb3 HR3;go_wp2_with fail
 go_ret
 exact⟨rfl,HB3.out⟩
end Go.Proofs.YtekekhgjobahaaaGreatDoor.rep
