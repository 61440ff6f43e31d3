import Derived.Test.YtekekhgjobahaaaGreatDoorC6
set_option maxHeartbeats 12800000
set_option maxRecDepth 100000
open Go.Lib (hid)
open Go.Proofs.Tryz
namespace Go.Proofs.YtekekhgjobahaaaGreatDoor.rep
open Go.RowKit words

def r1:tal.Rc:=⟨0,0,7,⟨#[]⟩,0,0,5,⟨#[]⟩,9,0,0,0,0,⟨#[]⟩,[],false,1,1,1,none,0⟩
theorem Jas {w:World} {a b:Nat} {c1 c2:Array Value} {T1 T2:TypeId} {f1 f2:Nat×Nat} (h1:w.heap[a]?=some (.cells c1 T1 f1)) (h2:w.heap[b]?=some (.cells c2 T2 f2)) (hT:T1≠T2):a≠b:=fun e=>by
 subst e;rw [h1] at h2;injection h2 with h2;injection h2 with _ h2;exact hT h2
structure Md (w:World) (n x v g go t c co:Nat) (ca ma clk:Int) (tc:List Value):Prop where
 bx:w.heap[x]?=some (.cells #[.pointer (some ⟨v,0,none⟩),.slice (some ⟨g,0,none⟩) 1 c,.int .i64 clk,.slice none 0 0] 79 (0,0))
 cr:Rw 159 w g [.slice (some ⟨go,0,none⟩) 1 co,.int .i64 0,.pointer (some ⟨t,0,none⟩),.int .i64 ca,.int .i64 ma]
 or:Rw 55 w go opC
 tk:Tk w t tc
 nx:n≤x
 ng:n≤g
 no:n≤go
 nt:n≤t
section
variable {w w':World} {n x v g go t c co:Nat} {ca ma clk:Int} {tc:List Value}
theorem Md.later (h:Md w n x v g go t c co ca ma clk tc) (hb:Below w.heap.size w w'):Md w' n x v g go t c co ca ma clk tc:=⟨stp.old hb h.bx,h.cr.later hb,h.or.later hb,h.tk.later hb,h.nx,h.ng,h.no,h.nt⟩
theorem Md.ne (h:Md w n x v g go t c co ca ma clk tc):x≠g∧go≠x∧go≠g∧t≠x∧t≠g∧t≠go:=by
 obtain⟨r1,h1⟩:=h.cr;obtain⟨r2,h2⟩:=h.or;exact⟨Jas h.bx h1 (by decide),Jas h2 h.bx (by decide),Jas h2 h1 (by decide),Jas h.tk h.bx (by decide),Jas h.tk h1 (by decide),Jas h.tk h2 (by decide)⟩
theorem Md.cells (h:Md w n x v g go t c co ca ma clk tc):(w.cell? ⟨x,0,none⟩=some (.pointer (some ⟨v,0,none⟩))∧w.cell? ⟨x,1,none⟩=some (.slice (some ⟨g,0,none⟩) 1 c)∧w.cell? ⟨x,2,none⟩=some (.int .i64 clk)∧w.cell? ⟨x,3,none⟩=some (.slice none 0 0))∧
  (w.cell? ⟨g,0,none⟩=some (.slice (some ⟨go,0,none⟩) 1 co)∧w.cell? ⟨g,1,none⟩=some (.int .i64 0)∧w.cell? ⟨g,2,none⟩=some (.pointer (some ⟨t,0,none⟩))∧w.cell? ⟨g,3,none⟩=some (.int .i64 ca)∧w.cell? ⟨g,4,none⟩=some (.int .i64 ma))∧
  (w.cell? ⟨go,0,none⟩=some (.int .i64 7)∧w.cell? ⟨go,1,none⟩=some (.string ⟨#[]⟩)∧w.cell? ⟨go,2,none⟩=some (.int .i64 0)∧w.cell? ⟨go,3,none⟩=some (.int .i64 0)∧w.cell? ⟨go,4,none⟩=some (.int .i64 5)∧w.cell? ⟨go,5,none⟩=some (.string ⟨#[]⟩)):=
 ⟨stp.cs4 h.bx,⟨h.cr.at rfl,h.cr.at rfl,h.cr.at rfl,h.cr.at rfl,h.cr.at rfl⟩,h.or.at rfl,h.or.at rfl,h.or.at rfl,h.or.at rfl,h.or.at rfl,h.or.at rfl⟩
theorem Md.put (h:Md w n x v g go t c co ca ma clk tc) (o:Nat) (u:Value) {tk':Value} {en' ca' ma':Int} (ho:o<5) (e:([.slice (some ⟨go,0,none⟩) 1 co,.int .i64 0,.pointer (some ⟨t,0,none⟩),.int .i64 ca,.int .i64 ma]:List Value).take o++[u]++([.slice (some ⟨go,0,none⟩) 1 co,.int .i64 0,.pointer (some ⟨t,0,none⟩),.int .i64 ca,.int .i64 ma]:List Value).drop (o+1)=[.slice (some ⟨go,0,none⟩) 1 co,.int .i64 en',tk',.int .i64 ca',.int .i64 ma']):
  (w.setCell ⟨g,o,none⟩ u).heap[x]?=w.heap[x]?∧Rw 159 (w.setCell ⟨g,o,none⟩ u) g [.slice (some ⟨go,0,none⟩) 1 co,.int .i64 en',tk',.int .i64 ca',.int .i64 ma']∧Rw 55 (w.setCell ⟨g,o,none⟩ u) go opC∧Tk (w.setCell ⟨g,o,none⟩ u) t tc∧Below n w (w.setCell ⟨g,o,none⟩ u):=by
 obtain⟨h1,h2,h3,h4,h5,h6⟩:=h.ne;refine⟨heap_setCell_other _ _ _ _ h1,e▸h.cr.put o u ho,h.or.same (heap_setCell_other _ _ _ _ h3),(heap_setCell_other _ _ _ _ h5).trans h.tk,(Below.refl _ _).setCell (p:=⟨g,o,none⟩) h.ng u⟩
end
def PickO (n x v g go c co:Nat) (w:World) (w':World):Prop:=∃gr cr,One w' n x v g go c co 1 1 1 1 (.slice (some ⟨gr,0,none⟩) 1 cr)∧Rw 59 w' gr r1.cs∧n≤gr∧Below n w w'
theorem Jn2 (n x v g go t c co:Nat) (w:World) (h:Md w n x v g go t c co 1 1 1 (ended true 9 0 0 0 0 ⟨#[]⟩ none 0 0 false)) (hn:n≤w.heap.size):
  Calls prog 84 #[.pointer (some ⟨x,0,none⟩),.int .i64 0] w fun e w'=>e= .returned (.tuple #[])∧PickO n x v g go c co w w':=by
 have HM:=hid h;have Hn:=hid hn;clear h hn;obtain⟨⟨x0,x1,x2,x3⟩,⟨g0,g1,g2,g3,g4⟩,o0,o1,o2,o3,o4,o5⟩:=HM.out.cells;go_enter func84,ntmps84
 go_upto_region 1 with fail
 clear x0 x1 x2 x3 g0 g1 g2 g3 g4 o0 o1 o2 o3 o4 o5;have HBd:Hid (Below w.heap.size w w.drew):=hid (Below.refl _ _).drew;have HRs:Hid (∀w',Below w.heap.size w w'→Calls prog 124 #[.pointer (some ⟨t,0,none⟩)] w' fun e' w''=>e'= .returned (.agg #[.int .i64 9,.int .i64 0,.int .i64 0,.int .i64 0,.int .i64 0,.string ⟨#[]⟩,.slice none 0 0,.bool false])∧Below w'.heap.size w' w''):=hid fun w' hb=>Jop true 9 0 0 0 0 ⟨#[]⟩ false w' (HM.out.later hb).tk;refine held.wpT_start (S:=fun w'=>Below w.heap.size w w') (T:=fun k=>k==42) (by kernel_rfl) ?_;refine stp.tk 0 11 ?_;refine stp.tk 1 12 ?_;refine stp.tk 2 13 ?_;refine stp.tk 3 14 ?_;refine stp.ld 4 15 (HBd.out) ?_ (hv:=by intro w' h;obtain⟨⟨x0,x1,x2,x3⟩,⟨g0,g1,g2,g3,g4⟩,o0,o1,o2,o3,o4,o5⟩:=(HM.out.later h).cells;clear h;go_simp;(try with_reducible rfl));refine stp.tk 5 16 ?_;refine stp.tk 6 17 ?_;refine stp.tk 7 18 ?_;refine stp.tk 8 19 ?_;refine stp.ld 9 20 (HBd.out) ?_ (hv:=by intro w' h;obtain⟨⟨x0,x1,x2,x3⟩,⟨g0,g1,g2,g3,g4⟩,o0,o1,o2,o3,o4,o5⟩:=(HM.out.later h).cells;clear h;go_simp;(try with_reducible rfl));refine stp.tk 10 21 ?_;refine stp.tk 11 22 ?_;refine stp.tk 12 23 ?_;refine stp.ld 13 24 (HBd.out) ?_ (hv:=by intro w' h;obtain⟨⟨x0,x1,x2,x3⟩,⟨g0,g1,g2,g3,g4⟩,o0,o1,o2,o3,o4,o5⟩:=(HM.out.later h).cells;clear h;go_simp;(try with_reducible rfl));refine stp.tk 14 25 ?_;refine stp.tk 15 26 ?_;refine stp.tk 16 27 ?_;refine stp.ld 17 28 (HBd.out) ?_ (hv:=by intro w' h;obtain⟨⟨x0,x1,x2,x3⟩,⟨g0,g1,g2,g3,g4⟩,o0,o1,o2,o3,o4,o5⟩:=(HM.out.later h).cells;clear h;go_simp;(try with_reducible rfl));refine stp.tk 18 29 ?_;refine stp.ld 19 30 (HBd.out) ?_ (hv:=by intro w' h;obtain⟨⟨x0,x1,x2,x3⟩,⟨g0,g1,g2,g3,g4⟩,o0,o1,o2,o3,o4,o5⟩:=(HM.out.later h).cells;clear h;go_simp;(try with_reducible rfl));refine stp.tk 20 31 ?_;refine stp.tk 21 32 ?_;refine stp.tk 22 33 ?_;refine stp.ld 23 34 (HBd.out) ?_ (hv:=by intro w' h;obtain⟨⟨x0,x1,x2,x3⟩,⟨g0,g1,g2,g3,g4⟩,o0,o1,o2,o3,o4,o5⟩:=(HM.out.later h).cells;clear h;go_simp;(try with_reducible rfl));refine stp.tk 25 36 ?_;refine stp.tk 26 37 ?_;refine stp.tk 27 38 ?_;refine stp.ld 28 39 (HBd.out) ?_ (hv:=by intro w' h;obtain⟨⟨x0,x1,x2,x3⟩,⟨g0,g1,g2,g3,g4⟩,o0,o1,o2,o3,o4,o5⟩:=(HM.out.later h).cells;clear h;go_simp;(try with_reducible rfl));refine stp.tk 29 40 ?_;refine stp.tk 30 41 ?_;refine stp.tk 31 42 ?_;refine stp.ld 32 43 (HBd.out) ?_ (hv:=by intro w' h;obtain⟨⟨x0,x1,x2,x3⟩,⟨g0,g1,g2,g3,g4⟩,o0,o1,o2,o3,o4,o5⟩:=(HM.out.later h).cells;clear h;go_simp;(try with_reducible rfl));refine stp.tk 33 44 ?_;refine stp.tk 34 45 ?_;refine stp.tk 35 46 ?_;refine stp.ld 36 47 (HBd.out) ?_ (hv:=by intro w' h;obtain⟨⟨x0,x1,x2,x3⟩,⟨g0,g1,g2,g3,g4⟩,o0,o1,o2,o3,o4,o5⟩:=(HM.out.later h).cells;clear h;go_simp;(try with_reducible rfl));refine held.wpT_one (i:=24) (by kernel_rfl) rfl (fun Kc hK=>?_);go_simp
 go_at_call 124
 refine (HRs.out _ HBd.out).mono ?_;rintro en w2 ⟨rfl,hb2⟩;have HB2:=hid (HBd.out.trans (hb2.mono HBd.out.size));clear hb2 HRs;refine hK.out _ _ (fun _ _=>HB2.out) ?_;clear hK;try simp only [stp.pt]
 refine stp.tk 37 48 ?_;refine held.wpT_one (i:=38) (by kernel_rfl) rfl (fun Kc hK=>?_);go_simp
 obtain⟨W3,hW3⟩:=words.nm (w2.alloc (.cells #[.int .i64 0,.int .i64 0,.int .i64 7,.string ⟨#[]⟩,.int .i64 0,.int .i64 0,.int .i64 5,.string ⟨#[]⟩,.int .i64 9,.int .i64 0,.int .i64 0,.int .i64 0,.int .i64 0,.string ⟨#[]⟩,.slice none 0 0,.bool false,.int .i64 1,.int .i64 1,.int .i64 1] 59));have hb3:=(stp.new hW3).2;have HLi:Hid (tre.Lies W3 (some ⟨w2.heap.size,0,none⟩) r1.cs):=hid (by rw [hW3];exact cat.lies_new _ _ _);have HB3:=hid (HB2.out.trans (hb3.mono HB2.out.size));rw [←hW3];clear hW3 hb3;refine hK.out _ _ (fun _ _=>HB3.out) ?_;clear hK;try simp only [stp.pt]
 refine held.wpT_one (i:=39) (by kernel_rfl) rfl (fun Kc hK=>?_);refine cat.step_app (V0:=W3) (E:=59) (sz:=19) (n:=0) (v:= .slice none 0 0) (xs:=[]) ⟨World.ownsRow_nil _ _ _ _,Below.refl _ _⟩ rfl (.tmp 15) (.tmp 49) 35 rfl _ 192 underlying35 tal.infoRec rfl (by decide) rfl (some ⟨w2.heap.size,0,none⟩) 1 1 r1.cs (fun h=>by cases h) rfl rfl HLi.out r1.one (by decide) (by decide) 1 _ rfl rfl ?_;intro A4 c4 w4 hM4 hA4 _;obtain⟨gr,rfl,hg4,_,hr4⟩:=Jrv hM4.own (by unfold tal.Rc.cs;simp);rw [List.nil_append] at hr4;have HB4:=hid (HB3.out.trans (hM4.below.mono HB3.out.size));have HR4:=hid hr4;have HG4:=hid (Nat.le_trans HB3.out.size hg4);clear hM4 hA4 hg4 hr4 HLi;refine hK.out _ _ (fun _ _=>HB4.out) ?_;clear hK;try simp only [stp.pt]
 refine stp.tk 40 51 ?_;refine stp.tk 41 52 ?_;refine held.wpT_one (i:=42) (by kernel_rfl) rfl (fun Kc hK=>?_);have hm:=HM.out.later HB4.out;have y1:=(stp.cs4 hm.bx).2.2.2;have z1:=Jab hm.bx 3;obtain⟨W5,hW5⟩:=words.nm (w4.setCell ⟨x,3,none⟩ (.slice (some ⟨gr,0,none⟩) 1 c4));have hx5:W5.heap[x]?=some (.cells #[.pointer (some ⟨v,0,none⟩),.slice (some ⟨g,0,none⟩) 1 c,.int .i64 1,.slice (some ⟨gr,0,none⟩) 1 c4] 79 (0,0)):=by rw [hW5];exact stp.put (cs:=[.pointer (some ⟨v,0,none⟩),.slice (some ⟨g,0,none⟩) 1 c,.int .i64 1,.slice none 0 0]) hm.bx 3 [.slice (some ⟨gr,0,none⟩) 1 c4] (show 3+1≤4 by decide)
 have hk5:∀k,k≠x→W5.heap[k]?=w4.heap[k]?:=fun k hk=>by rw [hW5];exact heap_setCell_other _ _ _ _ hk
 have hne:=hm.ne;have hgx:gr≠x:=by have:=HG4.out;have:=lt_of_some HM.out.bx;omega
 have HF:Hid (Rw 159 W5 g [.slice (some ⟨go,0,none⟩) 1 co,.int .i64 0,.pointer (some ⟨t,0,none⟩),.int .i64 1,.int .i64 1]∧Rw 55 W5 go opC∧Rw 59 W5 gr r1.cs∧Below n w W5):=hid ⟨hm.cr.same (hk5 g (Ne.symm hne.1)),hm.or.same (hk5 go hne.2.1),HR4.out.same (hk5 gr hgx),by rw [hW5];exact (HB4.out.mono Hn.out).setCell (p:=⟨x,3,none⟩) HM.out.nx _⟩;have HX5:=hid hx5;go_simp
 rw [←hW5];clear hW5 hm y1 z1 hx5 hk5 hne hgx HR4;refine hK.out _ _ (fun h=>absurd h (by decide)) ?_;clear hK;try simp only
 refine held.wpT_done (by kernel_rfl) ?_ _;have y2:=HF.out.1.at (i:=2) rfl;have z2:=HF.out.1.free 2;obtain⟨W6,hW6⟩:=words.nm (W5.setCell ⟨g,2,none⟩ (.pointer none));have hne:=HM.out.ne;have hgg:gr≠g:=by
  obtain⟨r1,h1⟩:=HF.out.1;obtain⟨r2,h2⟩:=HF.out.2.2.1;exact Jas h2 h1 (by decide)
 have hc6:Rw 159 W6 g [.slice (some ⟨go,0,none⟩) 1 co,.int .i64 0,.pointer none,.int .i64 1,.int .i64 1]:=by rw [hW6];exact HF.out.1.put 2 _ (show 2<5 by decide)
 have hk6:∀k,k≠g→W6.heap[k]?=W5.heap[k]?:=fun k hk=>by rw [hW6];exact heap_setCell_other _ _ _ _ hk
 have y1:=hc6.at (i:=1) rfl;have z1:=hc6.free 1;obtain⟨W7,hW7⟩:=words.nm (W6.setCell ⟨g,1,none⟩ (.int .i64 1));have hc7:Rw 159 W7 g [.slice (some ⟨go,0,none⟩) 1 co,.int .i64 1,.pointer none,.int .i64 1,.int .i64 1]:=by rw [hW7];exact hc6.put 1 _ (show 1<5 by decide)
 have hk7:∀k,k≠g→W7.heap[k]?=W5.heap[k]?:=fun k hk=>by rw [hW7];exact (heap_setCell_other _ _ _ _ hk).trans (hk6 k hk)
 have HE:Hid (PickO n x v g go c co w W7):=hid ⟨gr,c4,⟨(hk7 x hne.1).trans HX5.out,hc7,HF.out.2.1.same (hk7 go hne.2.2.1),HM.out.nx,HM.out.ng,HM.out.no,hne.1,hne.2.1,hne.2.2.1⟩,HF.out.2.2.1.same (hk7 gr hgg),Nat.le_trans Hn.out HG4.out,by rw [hW7,hW6];exact (HF.out.2.2.2.setCell (p:=⟨g,2,none⟩) HM.out.ng _).setCell (p:=⟨g,1,none⟩) HM.out.ng _⟩;have HW6:=hid hW6.symm;have HW7:=hid hW7.symm;clear hne hgg hc6 hk6 hc7 hk7 hW6 hW7 HF HX5;go_upto_region 3 with fail
 rw [HW6.out];clear HW6 y2 z2;go_wp2_with fail
 rw [HW7.out];clear HW7 y1 z1;go_end0
 exact⟨rfl,HE.out⟩
theorem Jie (A:Option Addr) (n c:Nat) (en:Int) (tk:Option Addr) (ca ma:Int) (b:Bool) (w:World) (hb:decide (en<(n:Int))=b):Calls prog 79 #[.agg #[.slice A n c,.int .i64 en,.pointer tk,.int .i64 ca,.int .i64 ma]] w fun e w'=>e= .returned (.bool b)∧Below w.heap.size w w':=by
 obtain⟨W1,hW1⟩:=words.nm (w.alloc (.cells #[.slice A n c,.int .i64 en,.pointer tk,.int .i64 ca,.int .i64 ma] 159));obtain⟨hx,hb1⟩:=stp.new hW1;obtain⟨g,hg⟩:=words.nm (w.heap.size);rw [←hg] at hx;have HG:=hid hg;clear hg;have c0:W1.cell? ⟨g,0,none⟩=some (.slice A n c):=Jaa hx 0;have c1:W1.cell? ⟨g,1,none⟩=some (.int .i64 en):=Jaa hx 1;have HB1:=hid hb1;have HW:=hid hW1.symm;subst hb;clear hx hb1 hW1;go_enter func79,ntmps79
 go_upto_region 1 with fail
 rw [HW.out];simp only [←HG.out];clear HW;go_wp2_with fail
 go_ret
 exact⟨rfl,HB1.out⟩
theorem Jtn {B s tt m:Nat} {L:List (Nat×Int)} {ad ep r nn:Int} (n x v g go c co:Nat) (w w0:World) (h:One w n x v g go c co 0 0 0 0 (.slice none 0 0)) (hn:n=w0.heap.size) (hbw:Below n w0 w) (hs:tal.Sp B s tt m none 0 L ad ep r nn [] w0) (hv:w0.cell? ⟨v,0,none⟩=some (.pointer (some ⟨s,0,none⟩))):
  Calls prog 50 #[.pointer (some ⟨x,0,none⟩),.int .i64 0] w fun e w'=>e= .returned (.bool true)∧PickO n x v g go c co w w':=by
 have hvlt:v<w0.heap.size:=World.block_lt_of_cell? w0 _ hv;have HSp:Hid (∀w',Below n w0 w'→tal.Sp B s tt m none 0 L ad ep r nn [] w'∧w'.cell? ⟨v,0,none⟩=some (.pointer (some ⟨s,0,none⟩))):=hid fun w' hb=>by
  rw [hn] at hb;exact⟨hs.later hb,(hb.cell (p:=⟨v,0,none⟩) hvlt).trans hv⟩
 have HN:Hid (n≤w.heap.size):=hid (by rw [hn];exact hbw.size);have HBw:=hid hbw;have HO:=hid h;have HB0:=hid (Jie (some ⟨go,0,none⟩) 1 co 0 none 0 0 true w (by decide));obtain⟨x0,x1,x2,x3⟩:=stp.cs4 h.bx;have g0:=h.cr.at (i:=0) rfl;have g1:=h.cr.at (i:=1) rfl;have g2:=h.cr.at (i:=2) rfl;have g3:=h.cr.at (i:=3) rfl;have g4:=h.cr.at (i:=4) rfl;clear h hn hbw hs hv hvlt;go_enter func50,ntmps50
 go_wp2_with fail
 refine HB0.out.mono ?_;rintro e w1 ⟨rfl,hb1⟩;clear x0 x1 x2 x3 g0 g1 g2 g3 g4 HB0;have hx1:=stp.old hb1 HO.out.bx;have hc1:=HO.out.cr.later hb1;obtain⟨x0,x1,x2,x3⟩:=stp.cs4 hx1;have z2:=Jab hx1 2;obtain⟨W2,hW2⟩:=words.nm (w1.setCell ⟨x,2,none⟩ (.int .i64 1));have hx2:W2.heap[x]?=some (.cells #[.pointer (some ⟨v,0,none⟩),.slice (some ⟨g,0,none⟩) 1 c,.int .i64 1,.slice none 0 0] 79 (0,0)):=by rw [hW2];exact stp.put (cs:=[.pointer (some ⟨v,0,none⟩),.slice (some ⟨g,0,none⟩) 1 c,.int .i64 0,.slice none 0 0]) hx1 2 [.int .i64 1] (show 2+1≤4 by decide)
 have hk2:∀k,k≠x→W2.heap[k]?=w1.heap[k]?:=fun k hk=>by rw [hW2];exact heap_setCell_other _ _ _ _ hk
 have HC2:=hid (hc1.same (hk2 g (Ne.symm HO.out.xg)));have HO2:=hid ((HO.out.or.later hb1).same (hk2 go HO.out.og.1));have HX2:=hid hx2;have HB2:Hid (Below n w W2):=hid (by rw [hW2];exact (hb1.mono HN.out).setCell (p:=⟨x,2,none⟩) HO.out.nx _);have HW2:=hid hW2.symm;clear hb1 hx1 hc1 hW2 hx2 hk2;go_upto_region 4 with fail
 rw [HW2.out];clear HW2 x0 x1 x2 x3 z2;obtain⟨x0,x1,x2,x3⟩:=stp.cs4 HX2.out;have g2:=HC2.out.at (i:=2) rfl;go_upto_region 6 with fail
 clear x0 x1 x2 x3 g2;have HBd:Hid (Below W2.heap.size W2 W2.drew):=hid (Below.refl _ _).drew;have HCE:Hid (∀w',Below W2.heap.size W2 w'→(w'.cell? ⟨x,0,none⟩=some (.pointer (some ⟨v,0,none⟩))∧w'.cell? ⟨x,2,none⟩=some (.int .i64 1))∧(w'.cell? ⟨g,0,none⟩=some (.slice (some ⟨go,0,none⟩) 1 co)∧w'.cell? ⟨g,1,none⟩=some (.int .i64 0))∧w'.cell? ⟨go,0,none⟩=some (.int .i64 7)∧w'.cell? ⟨go,1,none⟩=some (.string ⟨#[]⟩)∧w'.cell? ⟨go,2,none⟩=some (.int .i64 0)∧w'.cell? ⟨go,3,none⟩=some (.int .i64 0)∧w'.cell? ⟨go,4,none⟩=some (.int .i64 5)∧w'.cell? ⟨go,5,none⟩=some (.string ⟨#[]⟩)):=hid fun w' hb=>by
  have e:=stp.cs4 (stp.old hb HX2.out);exact⟨⟨e.1,e.2.2.1⟩,⟨(HC2.out.later hb).at rfl,(HC2.out.later hb).at rfl⟩,(HO2.out.later hb).at rfl,(HO2.out.later hb).at rfl,(HO2.out.later hb).at rfl,(HO2.out.later hb).at rfl,(HO2.out.later hb).at rfl,(HO2.out.later hb).at rfl⟩
 refine held.wpT_start (S:=fun w'=>Below W2.heap.size W2 w') (T:=fun k=>k==25||k==28||k==31) (by kernel_rfl) ?_;refine stp.tk 0 47 ?_;refine stp.tk 1 48 ?_;refine stp.tk 2 49 ?_;refine stp.tk 3 50 ?_;refine stp.tk 4 51 ?_;refine stp.tk 5 52 ?_;refine stp.ld 6 53 (HBd.out) ?_ (hv:=by intro w' h;obtain⟨⟨x0,x2⟩,⟨g0,g1⟩,o0,o1,o2,o3,o4,o5⟩:=HCE.out w' h;clear h;go_simp;(try with_reducible rfl));refine stp.tk 7 54 ?_;refine stp.tk 8 55 ?_;refine stp.tk 9 56 ?_;refine stp.ld 10 57 (HBd.out) ?_ (hv:=by intro w' h;obtain⟨⟨x0,x2⟩,⟨g0,g1⟩,o0,o1,o2,o3,o4,o5⟩:=HCE.out w' h;clear h;go_simp;(try with_reducible rfl));refine stp.tk 11 58 ?_;refine stp.tk 12 59 ?_;refine stp.tk 13 60 ?_;refine stp.ld 14 61 (HBd.out) ?_ (hv:=by intro w' h;obtain⟨⟨x0,x2⟩,⟨g0,g1⟩,o0,o1,o2,o3,o4,o5⟩:=HCE.out w' h;clear h;go_simp;(try with_reducible rfl));refine stp.tk 15 62 ?_;refine stp.ld 16 63 (HBd.out) ?_ (hv:=by intro w' h;obtain⟨⟨x0,x2⟩,⟨g0,g1⟩,o0,o1,o2,o3,o4,o5⟩:=HCE.out w' h;clear h;go_simp;(try with_reducible rfl));refine stp.tk 17 64 ?_;refine stp.tk 19 66 ?_;refine stp.tk 20 67 ?_;refine stp.tk 21 68 ?_;refine stp.ld 22 69 (HBd.out) ?_ (hv:=by intro w' h;obtain⟨⟨x0,x2⟩,⟨g0,g1⟩,o0,o1,o2,o3,o4,o5⟩:=HCE.out w' h;clear h;go_simp;(try with_reducible rfl));refine held.wpT_one (i:=18) (by kernel_rfl) rfl (fun Kc hK=>?_);go_simp
 go_at_call 80
 refine (Jvb v 7 ⟨#[]⟩ 0 0 5 ⟨#[]⟩ 0 _).mono ?_;rintro en w3 ⟨⟨t,rfl,ht,hT⟩,hb3⟩;have HB3:=hid (HBd.out.trans (hb3.mono HBd.out.size));have HT3:=hid hT;have Ht:=hid (Nat.le_trans HBd.out.size ht);clear hb3 hT ht;refine hK.out _ _ (fun _ _=>HB3.out) ?_;clear hK;try simp only [stp.pt]
 refine stp.tk 23 70 ?_;refine stp.tk 24 71 ?_;refine held.wpT_one (i:=25) (by kernel_rfl) rfl (fun Kc hK=>?_);have hc3:=HC2.out.later HB3.out;have y1:=hc3.at (i:=2) rfl;have z1:=hc3.free 2;obtain⟨W4,hW4⟩:=words.nm (w3.setCell ⟨g,2,none⟩ (.pointer (some ⟨t,0,none⟩)));have HC4:Hid (Rw 159 W4 g [.slice (some ⟨go,0,none⟩) 1 co,.int .i64 0,.pointer (some ⟨t,0,none⟩),.int .i64 0,.int .i64 0]):=hid (by rw [hW4];exact hc3.put 2 _ (show 2<5 by decide));have HK4:Hid (∀k,k≠g→W4.heap[k]?=w3.heap[k]?):=hid fun k hk=>by rw [hW4];exact heap_setCell_other _ _ _ _ hk
 have HB4:Hid (Below n w W4):=hid (by rw [hW4];exact (HB2.out.trans (HB3.out.mono (Nat.le_trans HN.out HB2.out.size))).setCell (p:=⟨g,2,none⟩) HO.out.ng _);go_simp
 rw [←hW4];clear hW4 hc3 y1 z1;refine hK.out _ _ (fun h=>absurd h (by decide)) ?_;clear hK;try simp only
 refine stp.tk 26 72 ?_;refine stp.tk 27 73 ?_;refine held.wpT_one (i:=28) (by kernel_rfl) rfl (fun Kc hK=>?_);have y1:=HC4.out.at (i:=3) rfl;have z1:=HC4.out.free 3;obtain⟨W5,hW5⟩:=words.nm (W4.setCell ⟨g,3,none⟩ (.int .i64 1));have HC5:Hid (Rw 159 W5 g [.slice (some ⟨go,0,none⟩) 1 co,.int .i64 0,.pointer (some ⟨t,0,none⟩),.int .i64 1,.int .i64 0]):=hid (by rw [hW5];exact HC4.out.put 3 _ (show 3<5 by decide));have HK5:Hid (∀k,k≠g→W5.heap[k]?=w3.heap[k]?):=hid fun k hk=>by rw [hW5];exact (heap_setCell_other _ _ _ _ hk).trans (HK4.out k hk)
 have HB5:Hid (Below n w W5):=hid (by rw [hW5];exact HB4.out.setCell (p:=⟨g,3,none⟩) HO.out.ng _);go_simp
 rw [←hW5];clear hW5 y1 z1 HC4 HK4 HB4;refine hK.out _ _ (fun h=>absurd h (by decide)) ?_;clear hK;try simp only
 refine stp.tk 29 74 ?_;refine stp.tk 30 75 ?_;refine held.wpT_one (i:=31) (by kernel_rfl) rfl (fun Kc hK=>?_);have y1:=HC5.out.at (i:=4) rfl;have z1:=HC5.out.free 4;obtain⟨W6,hW6⟩:=words.nm (W5.setCell ⟨g,4,none⟩ (.int .i64 0));have HC6:Hid (Rw 159 W6 g [.slice (some ⟨go,0,none⟩) 1 co,.int .i64 0,.pointer (some ⟨t,0,none⟩),.int .i64 1,.int .i64 0]):=hid (by rw [hW6];exact HC5.out.put 4 _ (show 4<5 by decide));have HK6:Hid (∀k,k≠g→W6.heap[k]?=w3.heap[k]?):=hid fun k hk=>by rw [hW6];exact (heap_setCell_other _ _ _ _ hk).trans (HK5.out k hk)
 have HB6:Hid (Below n w W6):=hid (by rw [hW6];exact HB5.out.setCell (p:=⟨g,4,none⟩) HO.out.ng _);go_simp
 rw [←hW6];clear hW6 y1 z1 HC5 HK5 HB5;refine hK.out _ _ (fun h=>absurd h (by decide)) ?_;clear hK;try simp only
 refine held.wpT_done (by kernel_rfl) ?_ _;have hgx:g≠x:=Ne.symm HO.out.xg;have htn:t≠x∧t≠g∧t≠go:=by
  have h1:=Ht.out;have h2:=lt_of_some HX2.out;have h3:=HC2.out.lt;have h4:=HO2.out.lt;omega
 have HM6:Hid (Md W6 n x v g go t c co 1 0 1 (newT v t 7 ⟨#[]⟩ 0 0 5 ⟨#[]⟩ 0)):=hid ⟨(HK6.out x (Ne.symm hgx)).trans (stp.old HB3.out HX2.out),HC6.out,(HO2.out.later HB3.out).same (HK6.out go HO.out.og.2),(HK6.out t htn.2.1).trans HT3.out,HO.out.nx,HO.out.ng,HO.out.no,Nat.le_trans (Nat.le_trans HN.out HB2.out.size) Ht.out⟩;have hsp:=HSp.out W6 (HBw.out.trans HB6.out);have HSt:=hid (Jot (Q:=fun _ w'=>Tk w' t (ended true 9 0 0 0 0 ⟨#[]⟩ none 0 0 false)∧lru.Tn (Me t) W6 w') HM6.out.tk rfl (Jk2 v t ⟨#[]⟩ 0 0 5 ⟨#[]⟩ 0 hsp.1 hsp.2 HM6.out.tk (by decide) (show (Lit.int .i64 5).wf=true by decide) rfl));obtain⟨⟨x0,x1,x2,x3⟩,⟨g0,g1,g2,g3,g4⟩,o0,o1,o2,o3,o4,o5⟩:=HM6.out.cells;clear hgx htn hsp HX2 HO2 HC2 HK6 HC6 HT3 Ht HCE HBd HB3;go_wp2_with fail
 refine HSt.out.mono ?_;rintro e w7 ⟨rfl,hT7,ht7⟩;obtain⟨n1,n2,n3,n4,n5,n6⟩:=HM6.out.ne;have HM7:Hid (Md w7 n x v g go t c co 1 0 1 (ended true 9 0 0 0 0 ⟨#[]⟩ none 0 0 false)):=hid ⟨(ht7.block x (lt_of_some HM6.out.bx) (Ne.symm n4)).trans HM6.out.bx,HM6.out.cr.same (ht7.block g HM6.out.cr.lt (Ne.symm n5)),HM6.out.or.same (ht7.block go HM6.out.or.lt (Ne.symm n6)),hT7,HM6.out.nx,HM6.out.ng,HM6.out.no,HM6.out.nt⟩;have HB7:Hid (Below n w w7):=hid (HB6.out.trans (ht7.below (fun k hk=>by rw [show k=t from hk];exact HM6.out.nt) (Nat.le_trans HN.out HB6.out.size)));have HMk:=hid (Jos (mk:=true) hT7 rfl);clear x0 x1 x2 x3 g0 g1 g2 g3 g4 o0 o1 o2 o3 o4 o5 hT7 ht7 n1 n2 n3 n4 n5 n6 HSt;obtain⟨⟨x0,x1,x2,x3⟩,⟨g0,g1,g2,g3,g4⟩,o0,o1,o2,o3,o4,o5⟩:=HM7.out.cells;go_wp2_with fail
 refine HMk.out.mono ?_;rintro e w8 ⟨rfl,rfl⟩;have z1:=HM7.out.cr.free 4;obtain⟨W9,hW9⟩:=words.nm (w7.setCell ⟨g,4,none⟩ (.int .i64 1));have hput:=HM7.out.put (tk':= .pointer (some ⟨t,0,none⟩)) (en':=0) (ca':=1) (ma':=1) 4 (.int .i64 1) (by decide) rfl;rw [←hW9] at hput;obtain⟨p1,p2,p3,p4,p5⟩:=hput;have HM9:Hid (Md W9 n x v g go t c co 1 1 1 (ended true 9 0 0 0 0 ⟨#[]⟩ none 0 0 false)):=hid ⟨p1.trans HM7.out.bx,p2,p3,p4,HM7.out.nx,HM7.out.ng,HM7.out.no,HM7.out.nt⟩;have HB9:Hid (Below n w W9):=hid (HB7.out.trans p5);have HW9:=hid hW9.symm;clear hW9 p1 p2 p3 p4 p5 HMk;go_upto_region 10 with fail
 rw [HW9.out];clear HW9 z1 x0 x1 x2 x3 g0 g1 g2 g3 g4 o0 o1 o2 o3 o4 o5;obtain⟨⟨x0,x1,x2,x3⟩,⟨g0,g1,g2,g3,g4⟩,o0,o1,o2,o3,o4,o5⟩:=HM9.out.cells;have HDn:=hid (Jng HM9.out.tk rfl);have HRc:=hid (Jn2 n x v g go t c co W9 HM9.out (Nat.le_trans HN.out HB9.out.size));go_wp2_with fail
 refine HDn.out.mono ?_;rintro e w8 ⟨rfl,rfl⟩;go_wp2_with fail
 refine HRc.out.mono ?_;rintro e w10 ⟨rfl,hp⟩;have HF:Hid (PickO n x v g go c co w w10):=hid (by
   obtain⟨gr,cr,q1,q2,q3,q4⟩:=hp;exact⟨gr,cr,q1,q2,q3,HB9.out.trans q4⟩)
 clear hp HRc HDn x0 x1 x2 x3 g0 g1 g2 g3 g4 o0 o1 o2 o3 o4 o5;go_wp2_with fail
 go_ret
 exact⟨rfl,HF.out⟩

theorem Jqb (g go c co:Nat) (ca ma:Int) (w:World) (h:Rw 159 w g [.slice (some ⟨go,0,none⟩) 1 co,.int .i64 0,.pointer none,.int .i64 ca,.int .i64 ma]):
  Calls prog 161 #[.slice (some ⟨g,0,none⟩) 1 c,.func (.func 79) #[] #[]] w fun e w'=>e= .returned (.int .i64 0)∧Below w.heap.size w w':=by
 have HB:=hid (Jie (some ⟨go,0,none⟩) 1 co 0 none ca ma true w (by decide));have g0:=h.at (i:=0) rfl;have g1:=h.at (i:=1) rfl;have g2:=h.at (i:=2) rfl;have g3:=h.at (i:=3) rfl;have g4:=h.at (i:=4) rfl;clear h;go_enter func161,ntmps161
 go_wp2_with fail
 refine wp_loop_rounds 1 ?_;rw [rounds_succ];go_wp2_with fail
 refine HB.out.mono ?_;rintro e w2 ⟨rfl,hb2⟩;have HB2:=hid hb2;clear hb2 g0 g1 g2 g3 g4;go_wp2_with fail
 go_ret
 exact⟨rfl,HB2.out⟩
theorem Jh1 (g go c co:Nat) (ca ma:Int) (w:World) (h:Rw 159 w g [.slice (some ⟨go,0,none⟩) 1 co,.int .i64 1,.pointer none,.int .i64 ca,.int .i64 ma]):
  Calls prog 161 #[.slice (some ⟨g,0,none⟩) 1 c,.func (.func 79) #[] #[]] w fun e w'=>e= .returned (.int .i64 (-1))∧Below w.heap.size w w':=by
 have HB:=hid (Jie (some ⟨go,0,none⟩) 1 co 1 none ca ma false w (by decide));have g0:=h.at (i:=0) rfl;have g1:=h.at (i:=1) rfl;have g2:=h.at (i:=2) rfl;have g3:=h.at (i:=3) rfl;have g4:=h.at (i:=4) rfl;clear h;go_enter func161,ntmps161
 go_wp2_with fail
 refine wp_loop_rounds 2 ?_;rw [rounds_succ];go_wp2_with fail
 refine HB.out.mono ?_;rintro e w2 ⟨rfl,hb2⟩;have HB2:=hid hb2;clear hb2 g0 g1 g2 g3 g4;go_wp2_with fail
 rw [rounds_succ];go_wp2_with fail
 go_ret
 exact⟨rfl,HB2.out⟩
theorem Je6 (g c:Nat) (k:Int) (b:Bool) (w:World) (hk:decide (0≤k)=b) (h:Calls prog 161 #[.slice (some ⟨g,0,none⟩) 1 c,.func (.func 79) #[] #[]] w fun e w'=>e= .returned (.int .i64 k)∧Below w.heap.size w w'):
  Calls prog 125 #[.slice (some ⟨g,0,none⟩) 1 c,.func (.func 79) #[] #[]] w fun e w'=>e= .returned (.bool b)∧Below w.heap.size w w':=by
 subst hk;have HI:=hid h;clear h;go_enter func125,ntmps125
 go_wp2_with fail
 refine HI.out.mono ?_;rintro e w2 ⟨rfl,hb2⟩;have HB2:=hid hb2;clear hb2 HI;go_wp2_with fail
 go_ret
 exact⟨rfl,HB2.out⟩
theorem Jku (x v g c:Nat) (clk:Int) (recs:Value) (b:Bool) (w:World) (hx:w.heap[x]?=some (.cells #[.pointer (some ⟨v,0,none⟩),.slice (some ⟨g,0,none⟩) 1 c,.int .i64 clk,recs] 79 (0,0))) (h:Calls prog 125 #[.slice (some ⟨g,0,none⟩) 1 c,.func (.func 79) #[] #[]] w fun e w'=>e= .returned (.bool b)∧Below w.heap.size w w'):
  Calls prog 85 #[.pointer (some ⟨x,0,none⟩)] w fun e w'=>e= .returned (.bool b)∧Below w.heap.size w w':=by
 have x1:=(stp.cs4 hx).2.1;have HI:=hid h;clear h hx;go_enter func85,ntmps85
 go_wp2_with fail
 refine HI.out.mono ?_;rintro e w2 ⟨rfl,hb2⟩;have HB2:=hid hb2;clear hb2 HI;go_wp2_with fail
 go_ret
 exact⟨rfl,HB2.out⟩
theorem Jsb (x v g c:Nat) (clk:Int) (recs:Value) (Q:World→Prop) (w:World) (hx:w.heap[x]?=some (.cells #[.pointer (some ⟨v,0,none⟩),.slice (some ⟨g,0,none⟩) 1 c,.int .i64 clk,recs] 79 (0,0))) (h:Calls prog 50 #[.pointer (some ⟨x,0,none⟩),.int .i64 0] w fun e w'=>e= .returned (.bool true)∧Q w'):
  Calls prog 86 #[.pointer (some ⟨x,0,none⟩)] w fun e w'=>e= .returned (.bool true)∧Q w':=by
 have x1:=(stp.cs4 hx).2.1;have HI:=hid h;clear h hx;go_enter func86,ntmps86
 go_wp2_with fail
 refine wp_loop_rounds 2 ?_;rw [rounds_succ];go_wp2_with fail
 refine HI.out.mono ?_;rintro e w2 ⟨rfl,hq⟩;have HQ:=hid hq;clear hq HI x1;go_wp2_with fail
 rw [rounds_succ];go_wp2_with fail
 go_ret
 exact⟨rfl,HQ.out⟩
theorem One.later {w w':World} {n x v g go c co:Nat} {en ca ma clk:Int} {recs:Value} (h:One w n x v g go c co en ca ma clk recs) (hb:Below w.heap.size w w'):One w' n x v g go c co en ca ma clk recs:=⟨stp.old hb h.bx,h.cr.later hb,h.or.later hb,h.nx,h.ng,h.no,h.xg,h.og⟩
def RestO (n x v g go c co:Nat) (w:World) (e:Ending) (w':World):Prop:=e= .returned (.bool true)∧PickO n x v g go c co w w'
theorem Jub {B s tt m:Nat} {L:List (Nat×Int)} {ad ep r nn:Int} (n x v g go c co:Nat) (w w0:World) (h:One w n x v g go c co 0 0 0 0 (.slice none 0 0)) (hn:n=w0.heap.size) (hbw:Below n w0 w) (hs:tal.Sp B s tt m none 0 L ad ep r nn [] w0) (hv:w0.cell? ⟨v,0,none⟩=some (.pointer (some ⟨s,0,none⟩))):
  Calls prog 51 #[.pointer (some ⟨x,0,none⟩)] w (RestO n x v g go c co w):=by
 have hnw:n≤w.heap.size:=by rw [hn];exact hbw.size
 have HN:=hid hnw;have HB1:=hid (Jku x v g c 0 _ true w h.bx (Je6 g c 0 true w (by decide) (Jqb g go c co 0 0 w h.cr)));have HR:Hid (∀w',Below w.heap.size w w'→Calls prog 86 #[.pointer (some ⟨x,0,none⟩)] w' fun e w''=>e= .returned (.bool true)∧PickO n x v g go c co w' w''):=hid fun w' hb=>Jsb x v g c 0 _ _ w' (h.later hb).bx (Jtn n x v g go c co w' w0 (h.later hb) hn (hbw.trans (hb.mono hnw)) hs hv);clear h hn hbw hs hv hnw;go_enter func51,ntmps51
 go_wp2_with fail
 refine wp_loop_rounds 2 ?_;rw [rounds_succ];go_wp2_with fail
 refine HB1.out.mono ?_;rintro e w2 ⟨rfl,hb2⟩;have HR2:=hid (HR.out w2 hb2);have HB2:=hid (hb2.mono HN.out);clear hb2 HR HB1;go_wp2_with fail
 refine HR2.out.mono ?_;rintro e w3 ⟨rfl,gr,cr,ho,hr,hg,hb3⟩;have HO:=hid ho;have HRr:=hid hr;have HG:=hid hg;have HB3:=hid (HB2.out.trans hb3);have HB4:=hid (Jku x v g c 1 _ false w3 ho.bx (Je6 g c (-1) false w3 (by decide) (Jh1 g go c co 1 1 w3 ho.cr)));clear ho hr hg hb3 HR2 HB2;go_wp2_with fail
 rw [rounds_succ];go_wp2_with fail
 refine HB4.out.mono ?_;rintro e w4 ⟨rfl,hb4⟩;have HF:Hid (PickO n x v g go c co w w4):=hid ⟨gr,cr,HO.out.later hb4,HRr.out.later hb4,HG.out,HB3.out.trans (hb4.mono (Nat.le_trans HN.out HB3.out.size))⟩;clear hb4 HB4;go_wp2_with fail
 go_ret
 exact⟨rfl,HF.out⟩
def RecsO (w:World) (e:Ending) (w':World):Prop:=∃gr cr,e= .returned (.slice (some ⟨gr,0,none⟩) 1 cr)∧Rw 59 w' gr r1.cs∧Below w.heap.size w w'
theorem Jlc {n x v g go c co gr cr:Nat} {w:World} (h:One w n x v g go c co 1 1 1 1 (.slice (some ⟨gr,0,none⟩) 1 cr)) (hr:Rw 59 w gr r1.cs):
  Calls prog 52 #[.pointer (some ⟨x,0,none⟩)] w (RecsO w):=by
 have x3:=(stp.cs4 h.bx).2.2.2;have HC:=hid (tal.copy_rec (some ⟨gr,0,none⟩) 1 cr r1.cs w (fun j u hu=>⟨gr,0,rfl,hr.lt,by rw [Nat.zero_add];exact hr.at hu⟩) (fun h=>by cases h) (by decide) rfl r1.one);clear h hr;go_enter func52,ntmps52
 go_wp2_with fail
 refine HC.out.mono ?_;rintro e w2 ⟨⟨A,c2,rfl,_,_,hown⟩,hb2⟩;obtain⟨g2,rfl,hg2,_,hr2⟩:=Jrv hown (by unfold tal.Rc.cs;simp);have y14:w2.cell? ⟨g2,14,none⟩=some (.slice none 0 0):=hr2.at (i:=14) rfl;have z14:=hr2.free 14;have HCl:=hid (Jek 0 0 w2);obtain⟨W3,hW3⟩:=words.nm (w2.setCell ⟨g2,14,none⟩ (.slice none 0 0));have HF:Hid (Rw 59 W3 g2 r1.cs∧Below w.heap.size w W3):=hid (by rw [hW3];exact⟨hr2.put 14 _ (show 14<19 by decide),hb2.setCell (p:=⟨g2,14,none⟩) hg2 _⟩);have HW3:=hid hW3.symm;clear hW3 hown hg2 hr2 hb2 HC x3;go_wp2_with fail
 refine wp_loop_rounds 2 ?_;rw [rounds_succ];go_wp2_with fail
 refine HCl.out.mono ?_;rintro e w9 ⟨rfl,rfl⟩;go_upto_region 6 with fail
 rw [HW3.out];clear HW3 y14 z14 HCl;go_wp2_with fail
 rw [rounds_succ];go_wp2_with fail
 go_ret
 exact⟨g2,c2,rfl,HF.out⟩
def PlayO (w:World) (e:Ending) (w':World):Prop:=∃(x v g2 c2:Nat) (B s t m:Nat),e= .returned (.tuple #[.slice (some ⟨g2,0,none⟩) 1 c2,.pointer (some ⟨x,0,none⟩)])∧Rw 59 w' g2 r1.cs∧w'.cell? ⟨x,0,none⟩=some (.pointer (some ⟨v,0,none⟩))∧w'.cell? ⟨v,0,none⟩=some (.pointer (some ⟨s,0,none⟩))∧spc.Sp B s t m none 0 [] 0 0 1 0 [] w'∧Below w.heap.size w w'
theorem Juv (b off c1 b2 off2 c2:Nat) (Ap:Option Addr) (cp:Nat) (w:World) (h1:w.cell? ⟨b,off,none⟩=some (.slice (some ⟨b2,off2,none⟩) 1 c2)) (h2:tal.Lies w (some ⟨b2,off2,none⟩) opC) (hc1:1≤c1):
  Calls prog 22 #[.agg #[.slice none 0 0,.int .i64 0],.agg #[.int .i64 1,.int .i64 1,.int .i64 1],.slice (some ⟨b,off,none⟩) 1 c1,.slice Ap 0 cp] w (PlayO w):=by
 obtain⟨Wa,hWa⟩:=words.nm (w.alloc (.cells #[.slice none 0 0,.int .i64 0] 38));obtain⟨hxa,hba⟩:=stp.new hWa;obtain⟨W1,hW1⟩:=words.nm (Wa.alloc (.cells #[.int .i64 1,.int .i64 1,.int .i64 1] 26));obtain⟨hx1,hb1⟩:=stp.new hW1;obtain⟨ga,hga⟩:∃g,g=w.heap.size:=⟨_,rfl⟩
 obtain⟨gb,hgb⟩:∃g,g=ga+1:=⟨_,rfl⟩
 rw [←hga] at hxa;rw [show Wa.heap.size=gb by rw [hgb,hga,hWa];simp] at hx1;obtain⟨a0,a1⟩:=stp.cs2 (stp.old hb1 hxa);obtain⟨b0,b1,b2'⟩:=stp.cs3 hx1;have HB1:=hid (hba.trans (hb1.mono hba.size));have hblt:b<w.heap.size:=World.block_lt_of_cell? w _ h1;have HN:=hid (Jxo b off c1 b2 off2 c2 W1 ((HB1.out.cell (p:=⟨b,off,none⟩) hblt).trans h1) (fun j u hu=>by
   obtain⟨b',o',e1,e2,e3⟩:=h2 j u hu;exact⟨b',o',e1,Nat.lt_of_lt_of_le e2 HB1.out.size,(HB1.out.cell (p:=⟨b',o'+j,none⟩) e2).trans e3⟩) hc1)
 have HGa:=hid hga;have HGb:=hid hgb;have HWa:=hid hWa.symm;have HW1:=hid hW1.symm;clear h1 h2 hblt hWa hxa hba hW1 hx1 hb1 hga hgb;go_enter func22,ntmps22
 go_upto_region 1 with fail
 rw [HWa.out];simp only [←HGa.out];rw [HW1.out];simp only [←HGb.out];clear HWa HW1;go_wp2_with fail
 refine HN.out.mono ?_;rintro e w2 ⟨B,bk,gs,gs2,n,x,g,go,c,co,w0,rfl,hsv,hn,hb0,hbn,ho⟩;have hst:=hsv.st;have hvc:w0.cell? ⟨bk.v,0,none⟩=some (.pointer (some ⟨bk.s,0,none⟩)):=Jaa hsv.blk 0;have HSt:Hid (∀w',Below n w0 w'→spc.Sp B bk.s bk.t bk.m none 0 [] 0 0 1 0 [] w'∧w'.cell? ⟨bk.v,0,none⟩=some (.pointer (some ⟨bk.s,0,none⟩))):=hid fun w' hb=>by
  rw [hn] at hb;exact⟨hst.later hb,(hb.cell (p:=⟨bk.v,0,none⟩) (lt_of_some hsv.blk)).trans hvc⟩
 have HRs:=hid (Jub n x bk.v g go c co w2 w0 ho hn hbn ⟨hst.ge,hst.blk,hst.tb⟩ hvc);have HBn:=hid hbn;have HB0:=hid (HB1.out.trans (hb0.mono HB1.out.size));have HNn:=hid (show w.heap.size≤n by rw [hn];exact HB0.out.size);have HNw:=hid (show n≤w2.heap.size by rw [hn];exact hbn.size);clear hsv hn hb0 hbn ho hst hvc HN a0 a1 b0 b1 b2';go_wp2_with fail
 refine wp_loop_rounds 1 ?_;rw [rounds_succ];go_wp2_with fail
 refine HRs.out.mono ?_;rintro e w3 ⟨rfl,gr,cr,ho,hr,hg,hb3⟩;have HRc:=hid (Jlc ho hr);have HO:=hid ho;have HB3:=hid (HBn.out.trans hb3);have HN3:=hid (Nat.le_trans HNw.out hb3.size);clear ho hr hg hb3 HRs;go_wp2_with fail
 refine HRc.out.mono ?_;rintro e w4 ⟨g2,c2,rfl,hr4,hb4⟩;have HB4:Hid (Below n w0 w4):=hid (HB3.out.trans (hb4.mono HN3.out));have HF:Hid (PlayO w (.returned (.tuple #[.slice (some ⟨g2,0,none⟩) 1 c2,.pointer (some ⟨x,0,none⟩)])) w4):=hid ⟨x,bk.v,g2,c2,B,bk.s,bk.t,bk.m,rfl,hr4,(stp.cs4 (HO.out.later hb4).bx).1,(HSt.out w4 HB4.out).2,(HSt.out w4 HB4.out).1,HB0.out.trans (HB4.out.mono HNn.out)⟩;clear hr4 hb4 HRc;go_wp2_with fail
 go_ret2
 exact HF.out

theorem index_none (w:World):Calls prog 161 #[.slice none 0 0,.func (.func 79) #[] #[]] w fun e w'=>e= .returned (.int .i64 (-1))∧w=w':=by
 go_enter func161,ntmps161
 go_wp2_with fail
 refine wp_loop_rounds 1 ?_;rw [rounds_succ];go_wp2_with fail
 go_ret
 exact⟨rfl,rfl⟩
theorem Ji1 (w:World):Calls prog 125 #[.slice none 0 0,.func (.func 79) #[] #[]] w fun e w'=>e= .returned (.bool false)∧w=w':=by
 have HI:=hid (index_none w);go_enter func125,ntmps125
 go_wp2_with fail
 refine HI.out.mono ?_;rintro e w2 ⟨rfl,rfl⟩;go_wp2_with fail
 go_ret
 exact⟨rfl,rfl⟩
theorem Jo7 (x v:Nat) (w:World) (hx:w.heap[x]?=some (.cells #[.pointer (some ⟨v,0,none⟩),.slice none 0 0,.int .i64 0,.slice none 0 0] 79 (0,0))):Calls prog 85 #[.pointer (some ⟨x,0,none⟩)] w fun e w'=>e= .returned (.bool false)∧w=w':=by
 have x1:=(stp.cs4 hx).2.1;have HI:=hid (Ji1 w);clear hx;go_enter func85,ntmps85
 go_wp2_with fail
 refine HI.out.mono ?_;rintro e w2 ⟨rfl,rfl⟩;go_wp2_with fail
 go_ret
 exact⟨rfl,rfl⟩
theorem Jb6 (x v:Nat) (w:World) (hx:w.heap[x]?=some (.cells #[.pointer (some ⟨v,0,none⟩),.slice none 0 0,.int .i64 0,.slice none 0 0] 79 (0,0))):Calls prog 51 #[.pointer (some ⟨x,0,none⟩)] w fun e w'=>e= .returned (.bool true)∧w=w':=by
 have HI:=hid (Jo7 x v w hx);clear hx;go_enter func51,ntmps51
 go_wp2_with fail
 refine wp_loop_rounds 1 ?_;rw [rounds_succ];go_wp2_with fail
 refine HI.out.mono ?_;rintro e w2 ⟨rfl,rfl⟩;go_wp2_with fail
 go_ret
 exact⟨rfl,rfl⟩
theorem Jkt (x v:Nat) (w:World) (hx:w.heap[x]?=some (.cells #[.pointer (some ⟨v,0,none⟩),.slice none 0 0,.int .i64 0,.slice none 0 0] 79 (0,0))):Calls prog 52 #[.pointer (some ⟨x,0,none⟩)] w fun e w'=>e= .returned (.slice none 0 0)∧w=w':=by
 have x3:=(stp.cs4 hx).2.2.2;have HC:Hid (Calls prog 87 #[.slice none 0 0] w fun e w'=>e= .returned (.slice none 0 0)∧w=w'):=hid (by
   have heq:=fun wx=>Lib.run_eql_slice_nil (P:=prog) wx 35 59 none 0 0 0 0 underlying35;clear x3 hx;go_enter func87,ntmps87
   go_wp2_with fail
   go_ret
   exact⟨rfl,rfl⟩)
 clear hx;go_enter func52,ntmps52
 go_wp2_with fail
 refine HC.out.mono ?_;rintro e w2 ⟨rfl,rfl⟩;go_wp2_with fail
 refine wp_loop_rounds 1 ?_;rw [rounds_succ];go_wp2_with fail
 go_ret
 exact⟨rfl,rfl⟩
def MadeN (As:Option Addr) (cs:Nat) (L:List (Nat×Int)) (ad:Int) (w:World) (e:Ending) (w':World):Prop:=∃(B x:Nat) (b:svr.Bk) (gs gs2:List Nat),e= .returned (.pointer (some ⟨x,0,none⟩))∧svr.Sv w' B b (svr.newD As cs L ad 1 1 gs gs2)∧w'.heap[x]?=some (.cells #[.pointer (some ⟨b.v,0,none⟩),.slice none 0 0,.int .i64 0,.slice none 0 0] 79 (0,0))∧Below w.heap.size w w'
theorem Juu (As:Option Addr) (cs:Nat) (L:List (Nat×Int)) (ad:Int) (Ac:Option Addr) (cc:Nat) (w:World):
  Calls prog 49 #[.agg #[.slice As L.length cs,.int .i64 ad],.agg #[.int .i64 0,.int .i64 0,.int .i64 0],.slice Ac 0 cc] w (MadeN As cs L ad w):=by
 obtain⟨Wa,hWa⟩:=words.nm (w.alloc (.cells #[.slice As L.length cs,.int .i64 ad] 38));obtain⟨hxa,hba⟩:=stp.new hWa;obtain⟨W1,hW1⟩:=words.nm (Wa.alloc (.cells #[.int .i64 0,.int .i64 0,.int .i64 0] 26));obtain⟨hx1,hb1⟩:=stp.new hW1;obtain⟨ga,hga⟩:∃g,g=w.heap.size:=⟨_,rfl⟩
 obtain⟨gb,hgb⟩:∃g,g=ga+1:=⟨_,rfl⟩
 rw [←hga] at hxa;rw [show Wa.heap.size=gb by rw [hgb,hga,hWa];simp] at hx1;obtain⟨a0,a1⟩:=stp.cs2 (stp.old hb1 hxa);obtain⟨b0,b1,b2'⟩:=stp.cs3 hx1;have HB1:=hid (hba.trans (hb1.mono hba.size));have HN:=hid (svr.vnew_any As cs L ad 0 0 0 1 1 1 W1 (by decide) (by decide) (by decide));have hsl:=fun wx=>cat.run_cut_hi (P:=prog) 28 103 _ 1 24 underlying28 rfl infoOps Ac 0 cc 0 (Nat.zero_le _) wx;have HGa:=hid hga;have HGb:=hid hgb;have HWa:=hid hWa.symm;have HW1:=hid hW1.symm;clear hWa hxa hba hW1 hx1 hb1 hga hgb;go_enter func49,ntmps49
 go_upto_region 1 with fail
 rw [HWa.out];simp only [←HGa.out];rw [HW1.out];simp only [←HGb.out];clear HWa HW1;go_wp2_with fail
 refine HN.out.mono ?_;rintro e w2 ⟨bk,gs,gs2,rfl,-,-,hsv,hb2⟩;obtain⟨v,hv⟩:=words.nm (bk.v);rw [←hv];obtain⟨x,hx⟩:=words.nm (w2.heap.size);obtain⟨W3,hW3⟩:=words.nm (w2.alloc (.cells #[.pointer (some ⟨v,0,none⟩),.slice none 0 0,.int .i64 0,.slice none 0 0] 79));obtain⟨hx3,hb3⟩:=stp.new hW3;rw [←hx] at hx3;have HX:=hid hx;have HF:Hid (MadeN As cs L ad w (.returned (.pointer (some ⟨x,0,none⟩))) W3):=hid ⟨_,x,bk,gs,gs2,rfl,hsv.later hb3,by rw [←hv];exact hx3,HB1.out.trans ((hb2.trans (hb3.mono hb2.size)).mono HB1.out.size)⟩;have HW3:=hid hW3.symm;clear hb2 hsv hv hx hW3 hx3 hb3 HN a0 a1 b0 b1 b2';go_upto_region 2 with fail
 rw [HW3.out];simp only [←HX.out];clear HW3;go_wp2_with fail
 refine wp_loop_rounds 1 ?_;rw [rounds_succ];go_wp2_with fail
 go_ret
 exact HF.out
def PlayN (As:Option Addr) (cs:Nat) (L:List (Nat×Int)) (ad:Int) (w:World) (e:Ending) (w':World):Prop:=∃(x v B s t m:Nat),e= .returned (.tuple #[.slice none 0 0,.pointer (some ⟨x,0,none⟩)])∧w'.cell? ⟨x,0,none⟩=some (.pointer (some ⟨v,0,none⟩))∧w'.cell? ⟨v,0,none⟩=some (.pointer (some ⟨s,0,none⟩))∧spc.Sp B s t m As cs L ad 0 1 0 [] w'∧Below w.heap.size w w'
theorem Jsl (As:Option Addr) (cs:Nat) (L:List (Nat×Int)) (ad:Int) (Ac Ap:Option Addr) (cc cp:Nat) (w:World):
  Calls prog 22 #[.agg #[.slice As L.length cs,.int .i64 ad],.agg #[.int .i64 0,.int .i64 0,.int .i64 0],.slice Ac 0 cc,.slice Ap 0 cp] w (PlayN As cs L ad w):=by
 obtain⟨Wa,hWa⟩:=words.nm (w.alloc (.cells #[.slice As L.length cs,.int .i64 ad] 38));obtain⟨hxa,hba⟩:=stp.new hWa;obtain⟨W1,hW1⟩:=words.nm (Wa.alloc (.cells #[.int .i64 0,.int .i64 0,.int .i64 0] 26));obtain⟨hx1,hb1⟩:=stp.new hW1;obtain⟨ga,hga⟩:∃g,g=w.heap.size:=⟨_,rfl⟩
 obtain⟨gb,hgb⟩:∃g,g=ga+1:=⟨_,rfl⟩
 rw [←hga] at hxa;rw [show Wa.heap.size=gb by rw [hgb,hga,hWa];simp] at hx1;obtain⟨a0,a1⟩:=stp.cs2 (stp.old hb1 hxa);obtain⟨b0,b1,b2'⟩:=stp.cs3 hx1;have HB1:=hid (hba.trans (hb1.mono hba.size));have HN:=hid (Juu As cs L ad Ac cc W1);have HGa:=hid hga;have HGb:=hid hgb;have HWa:=hid hWa.symm;have HW1:=hid hW1.symm;clear hWa hxa hba hW1 hx1 hb1 hga hgb;go_enter func22,ntmps22
 go_upto_region 1 with fail
 rw [HWa.out];simp only [←HGa.out];rw [HW1.out];simp only [←HGb.out];clear HWa HW1;go_wp2_with fail
 refine HN.out.mono ?_;rintro e w2 ⟨B,x,bk,gs,gs2,rfl,hsv,hx,hb2⟩;have HR:=hid (Jb6 x bk.v w2 hx);have HRc:=hid (Jkt x bk.v w2 hx);have HF:Hid (PlayN As cs L ad w (.returned (.tuple #[.slice none 0 0,.pointer (some ⟨x,0,none⟩)])) w2):=hid ⟨x,bk.v,B,bk.s,bk.t,bk.m,rfl,(stp.cs4 hx).1,Jaa hsv.blk 0,hsv.st,HB1.out.trans (hb2.mono HB1.out.size)⟩;clear hsv hx hb2 HN a0 a1 b0 b1 b2';go_wp2_with fail
 refine wp_loop_rounds 1 ?_;rw [rounds_succ];go_wp2_with fail
 refine HR.out.mono ?_;rintro e w3 ⟨rfl,rfl⟩;go_wp2_with fail
 refine HRc.out.mono ?_;rintro e w3 ⟨rfl,rfl⟩;go_wp2_with fail
 go_ret2
 exact HF.out
end Go.Proofs.YtekekhgjobahaaaGreatDoor.rep
