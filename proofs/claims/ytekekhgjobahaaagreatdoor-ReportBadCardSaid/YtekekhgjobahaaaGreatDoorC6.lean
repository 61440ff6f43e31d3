import Derived.Test.YtekekhgjobahaaaGreatDoorA3
import Derived.Test.YtekekhgjobahaaaGreatDoorC4
import Derived.Test.YtekekhgjobahaaaGreatDoorC5
set_option maxHeartbeats 12800000
set_option maxRecDepth 100000
open Go.Lib (hid)
open Go.Proofs.Tryz
namespace Go.Proofs.YtekekhgjobahaaaGreatDoor.rep
open Go.RowKit words

theorem infoOp:(Tryz.prog.info? 55).map (fun i=>(i.zero,i.size,i.bytes))=some (some (.agg #[.int .i64 0,.string ⟨#[]⟩,.int .i64 0,.int .i64 0,.int .i64 0,.string ⟨#[]⟩]),6,64):=by kernel_rfl
theorem infoCl:(Tryz.prog.info? 159).map (fun i=>(i.zero,i.size,i.bytes))=some (some (.agg #[.slice none 0 0,.int .i64 0,.pointer none,.int .i64 0,.int .i64 0]),5,56):=by kernel_rfl
theorem infoOps:(Tryz.prog.info? 103).map (fun i=>(i.zero,i.size,i.bytes))=some (some (.slice none 0 0),1,24):=by kernel_rfl
theorem Jxu (A:Option Addr) (n c:Nat) (xs:List Value) (w:World) (hN:tal.Lies w A xs) (hz:A=none→n=0∧c=0) (hl:n*64≤140737488355328) (hlen:xs.length=n*6) (hone:∀u∈xs,u.oneCell'=true):
  Calls prog 78 #[.slice A n c] w (tal.Copied 55 6 n xs w):=by
 obtain⟨i0,hi,hz0,hz1,hz2⟩:=lru.info_three infoOp;rcases A with _ |ad
 ·obtain⟨rfl,rfl⟩:=hz rfl
  obtain rfl:xs=[]:=List.eq_nil_of_length_eq_zero (by omega);have heq0:=fun wx=>Lib.run_eql_slice_nil (P:=prog) wx 103 55 none 0 0 0 0 underlying103;clear hN hl hz0 hz1 hz2 hi;go_enter func78,ntmps78
  go_wp2_with fail
  go_ret
  exact⟨⟨none,0,rfl,Nat.le_refl _,fun _=>⟨rfl,rfl⟩,World.ownsRow_nil _ _ _ _⟩,Below.refl _ _⟩
 ·have heq:=fun wx=>Lib.run_eql_slice_nil (P:=prog) wx 103 55 (some ad) n c 0 0 underlying103
  have hnews:Hid (∀j u,xs[j]?=some u→(w.alloc (.cells #[] 55)).cell? (ad.add j)=some u):=hid fun j u hu=>by
   obtain⟨b,off,hA,hB,hc⟩:=hN j u hu;injection hA with hA;subst hA;rw [tal.add_place];exact (((Below.refl w.heap.size w).alloc (Nat.le_refl _) (.cells #[] 55)).cell (p:=⟨b,off+j,none⟩) hB).trans hc
  have HOne:=hid hone;have HLen:=hid hlen;clear hN hone hlen hz;go_enter func78,ntmps78
  go_wp2_with (at_builtin;refine wpList_append_own _ rfl (.tmp 5) (.tmp 6) 103 rfl w.heap.size 55 i0 _ 6 64 underlying103 hi hz0 hz1 hz2 rfl (by omega) (.slice (some ⟨w.heap.size,0,none⟩) 0 0) 0 [] rfl (World.ownsRow_made w #[] 0 (Nat.le_refl _) (by decide) rfl) ad n c xs rfl HLen.out hnews.out HOne.out (by simp only [maxLen];omega) (by omega) (by simp) ?_;intro v4 w4 hown4 hgrow hnil4)
  rw [Nat.zero_add,List.nil_append] at hown4;obtain⟨A4,c4,rfl,h1,h2⟩:=tal.own_facts hown4;have HO4:=hid hown4;have HB4:=hid (lru.keep_grown (S:=w.heap.size) ((Below.refl w.heap.size w).alloc (Nat.le_refl _) (.cells #[] 55)) (World.ownsRow_made w #[] 0 (Nat.le_refl _) (by decide) rfl:(w.alloc (.cells #[] 55)).ownsRow w.heap.size 55 6 _ 0 []) hgrow (Nat.le_refl _) (Nat.le_refl _));clear hown4 hgrow hnil4;go_wp2_with fail
  go_ret
  exact⟨⟨A4,c4,rfl,h1,h2,HO4.out⟩,HB4.out⟩
def opC:List Value:=[.int .i64 7,.string ⟨#[]⟩,.int .i64 0,.int .i64 0,.int .i64 5,.string ⟨#[]⟩]
def Rw (T:TypeId) (w:World) (g:Nat) (vs:List Value):Prop:=∃rest,w.heap[g]?=some (.cells (vs++rest).toArray T (0,0))
variable {T:TypeId} {w w':World} {g:Nat} {vs:List Value}
theorem Rw.at (h:Rw T w g vs) {i:Nat} {u:Value} (hu:vs[i]?=some u):w.cell? ⟨g,i,none⟩=some u:=by
 obtain⟨r,h⟩:=h;rw [Jaa h,List.getElem?_toArray,List.getElem?_append_left (List.getElem?_eq_some_iff.1 hu).1];exact hu
theorem Rw.free (h:Rw T w g vs) (i:Nat):w.frozen? ⟨g,i,none⟩=false:=by
 obtain⟨r,h⟩:=h;exact Jab h i
theorem Rw.lt (h:Rw T w g vs):g<w.heap.size:=by
 obtain⟨r,h⟩:=h;exact lt_of_some h
theorem Rw.same (h:Rw T w g vs) (e:w'.heap[g]?=w.heap[g]?):Rw T w' g vs:=by
 obtain⟨r,h⟩:=h;exact⟨r,e.trans h⟩
theorem Rw.later (h:Rw T w g vs) (hb:Below w.heap.size w w'):Rw T w' g vs:=h.same (hb.block _ h.lt)
theorem Rw.put (h:Rw T w g vs) (o:Nat) (u:Value) (ho:o<vs.length):Rw T (w.setCell ⟨g,o,none⟩ u) g (vs.take o++[u]++vs.drop (o+1)):=by
 obtain⟨r,h⟩:=h;refine⟨r,(stp.put h o [u] (by rw [List.length_append,List.length_singleton];omega)).trans ?_⟩;rw [List.take_append_of_le_length (by omega),List.length_singleton,List.drop_append_of_le_length (by omega)];simp
theorem Jrv {B n c sz:Nat} {A:Option Addr} (h:w.ownsRow B T sz (.slice A n c) n vs) (h0:vs≠[]):∃g,A=some ⟨g,0,none⟩∧B≤g∧n≤c∧Rw T w g vs:=by
 rcases h.2 with⟨_,h1⟩ |⟨g,cap,cur,hv,hB,hh,hn,_,_,h4⟩
 ·exfalso
  have:=h.1;rw [h1,Nat.zero_mul] at this;exact h0 (List.eq_nil_of_length_eq_zero this)
 ·injection hv with e1 e2 e3
  subst e3;refine⟨g,e1,hB,hn,cur.toList.drop vs.length,?_⟩;rw [hh];congr 2;apply Array.toList_inj.1;have hl:=h.1;rw [←hl] at h4;show cur.toList=vs++cur.toList.drop vs.length
  conv=>lhs;rw [←List.take_append_drop vs.length cur.toList,h4]
structure One (w:World) (n x v g go:Nat) (c co:Nat) (en:Int) (ca ma:Int) (clk:Int) (recs:Value):Prop where
 bx:w.heap[x]?=some (.cells #[.pointer (some ⟨v,0,none⟩),.slice (some ⟨g,0,none⟩) 1 c,.int .i64 clk,recs] 79 (0,0))
 cr:Rw 159 w g [.slice (some ⟨go,0,none⟩) 1 co,.int .i64 en,.pointer none,.int .i64 ca,.int .i64 ma]
 or:Rw 55 w go opC
 nx:n≤x
 ng:n≤g
 no:n≤go
 xg:x≠g
 og:go≠x∧go≠g
def MadeO (w:World) (e:Ending) (w':World):Prop:=∃(B:Nat) (b:svr.Bk) (gs gs2:List Nat) (n x g go c co:Nat) (w2:World),e= .returned (.pointer (some ⟨x,0,none⟩))∧svr.Sv w2 B b (svr.newD none 0 [] 0 1 1 gs gs2)∧n=w2.heap.size∧Below w.heap.size w w2∧Below n w2 w'∧One w' n x b.v g go c co 0 0 0 0 (.slice none 0 0)
theorem Jxo (b off c1 b2 off2 c2:Nat) (w:World) (h1:w.cell? ⟨b,off,none⟩=some (.slice (some ⟨b2,off2,none⟩) 1 c2)) (h2:tal.Lies w (some ⟨b2,off2,none⟩) opC) (hc1:1≤c1):
  Calls prog 49 #[.agg #[.slice none 0 0,.int .i64 0],.agg #[.int .i64 1,.int .i64 1,.int .i64 1],.slice (some ⟨b,off,none⟩) 1 c1] w (MadeO w):=by
 have hblt:b<w.heap.size:=World.block_lt_of_cell? w _ h1;obtain⟨Wa,hWa⟩:=words.nm (w.alloc (.cells #[.slice none 0 0,.int .i64 0] 38));obtain⟨hxa,hba⟩:=stp.new hWa;obtain⟨W1,hW1⟩:=words.nm (Wa.alloc (.cells #[.int .i64 1,.int .i64 1,.int .i64 1] 26));obtain⟨hx1,hb1⟩:=stp.new hW1;obtain⟨ga,hga⟩:∃g,g=w.heap.size:=⟨_,rfl⟩
 obtain⟨gb,hgb⟩:∃g,g=ga+1:=⟨_,rfl⟩
 rw [←hga] at hxa;rw [show Wa.heap.size=gb by rw [hgb,hga,hWa];simp] at hx1;obtain⟨a0,a1⟩:=stp.cs2 (stp.old hb1 hxa);obtain⟨b0,b1,b2'⟩:=stp.cs3 hx1;have HB1:=hid (hba.trans (hb1.mono hba.size));have HN:=hid (svr.vnew_any none 0 [] 0 1 1 1 1 1 1 W1 (by decide) (by decide) (by decide));have HC:Hid (∀w',Below w.heap.size w w'→w'.cell? ⟨b,off,none⟩=some (.slice (some ⟨b2,off2,none⟩) 1 c2)):=hid fun w' hb=>(hb.cell (p:=⟨b,off,none⟩) hblt).trans h1;have HCp:Hid (∀w',Below w.heap.size w w'→Calls prog 78 #[.slice (some ⟨b2,off2,none⟩) 1 c2] w' (tal.Copied 55 6 1 opC w')):=hid fun w' hb=>Jxu (some ⟨b2,off2,none⟩) 1 c2 opC w' (fun j u hu=>by
   obtain⟨b',o',e1,e2,e3⟩:=h2 j u hu;exact⟨b',o',e1,Nat.lt_of_lt_of_le e2 hb.size,(hb.cell (p:=⟨b',o'+j,none⟩) e2).trans e3⟩) (fun h=>by cases h) (by decide) rfl (fun u hu=>by
   simp only [opC,List.mem_cons,List.mem_nil_iff,or_false] at hu;rcases hu with rfl |rfl |rfl |rfl |rfl |rfl<;>rfl)
 have hsl:=fun wx=>cat.run_cut_hi (P:=prog) 28 103 _ 1 24 underlying28 rfl infoOps (some ⟨b,off,none⟩) 1 c1 1 hc1 wx;have HGa:=hid hga;have HGb:=hid hgb;have HWa:=hid hWa.symm;have HW1:=hid hW1.symm;clear h1 h2 hblt hWa hxa hba hW1 hx1 hb1 hga hgb;go_enter func49,ntmps49
 go_upto_region 1 with fail
 rw [HWa.out];simp only [←HGa.out];rw [HW1.out];simp only [←HGb.out];clear HWa HW1;go_wp2_with fail
 refine HN.out.mono ?_;rintro e w2 ⟨bk,gs,gs2,rfl,-,-,hsv,hb2⟩;have HB2:=hid (HB1.out.trans (hb2.mono HB1.out.size));have HSv:=hid hsv;obtain⟨v,hv⟩:=words.nm (bk.v);rw [←hv];have HV:=hid hv;obtain⟨x,hx⟩:=words.nm (w2.heap.size);obtain⟨W3,hW3⟩:=words.nm (w2.alloc (.cells #[.pointer (some ⟨v,0,none⟩),.slice none 0 0,.int .i64 0,.slice none 0 0] 79));obtain⟨hx3,hb3⟩:=stp.new hW3;rw [←hx] at hx3;have HX:=hid hx;have HX3:=hid hx3;have HB3:=hid hb3;have HB3w:=hid (HB2.out.trans (hb3.mono HB2.out.size));have HW3:=hid hW3.symm;clear hb2 hsv hv hx hW3 hx3 hb3 HN a0 a1 b0 b1 b2';go_upto_region 2 with fail
 rw [HW3.out];simp only [←HX.out];clear HW3;have d0:=HC.out W3 HB3w.out;go_wp2_with fail
 refine wp_loop_rounds 2 ?_;rw [rounds_succ];go_upto_region 5 with fail
 clear d0;have HBd:Hid (Below W3.heap.size W3 W3.drew):=hid (Below.refl _ _).drew;have HL:Hid (∀w',Below W3.heap.size W3 w'→w'.cell? ⟨x,1,none⟩=some (.slice none 0 0)):=hid fun w' hb=>(stp.cs4 (stp.old hb HX3.out)).2.1;refine held.wpT_start (S:=fun w'=>Below W3.heap.size W3 w') (T:=fun k=>k==12) (by kernel_rfl) ?_;refine stp.tk 0 25 ?_;refine stp.tk 1 26 ?_;refine stp.tk 2 27 ?_;refine stp.tk 3 28 ?_;refine stp.ld 4 29 (HBd.out) ?_ (hv:=by intro w' h;have c1:=HL.out w' h;clear h;go_simp;(try with_reducible rfl));refine stp.tk 5 30 ?_;refine held.wpT_one (i:=6) (by kernel_rfl) rfl (fun Kc hK=>?_);go_simp
 go_at_call 78
 refine (HCp.out _ (HB3w.out.trans (HBd.out.mono HB3w.out.size))).mono ?_;rintro en w5 ⟨⟨A5,co,rfl,hn5,-,ho5⟩,hb5⟩;have HB5:=hid (HBd.out.trans (hb5.mono HBd.out.size));obtain⟨go,rfl,hg5,_,ho5⟩:=Jrv ho5 (by unfold opC;simp);have HO5:=hid ho5;have HG5:=hid (Nat.le_trans HBd.out.size hg5);clear hb5 ho5 hg5 HCp hn5;refine hK.out _ _ (fun _ _=>HB5.out) ?_;clear hK;try simp only [stp.pt]
 refine stp.tk 7 32 ?_;refine held.wpT_one (i:=8) (by kernel_rfl) rfl (fun Kc hK=>?_);go_simp
 obtain⟨W6,hW6⟩:=words.nm (w5.alloc (.cells #[.slice (some ⟨go,0,none⟩) 1 co,.int .i64 0,.pointer none,.int .i64 0,.int .i64 0] 159));have hb6:=(stp.new hW6).2;have HLi:Hid (tre.Lies W6 (some ⟨w5.heap.size,0,none⟩) (#[.slice (some ⟨go,0,none⟩) 1 co,.int .i64 0,.pointer none,.int .i64 0,.int .i64 0]:Array Value).toList):=hid (by rw [hW6];exact cat.lies_new _ _ _);have HB6:=hid (HB5.out.trans (hb6.mono HB5.out.size));have HO6:=hid (HO5.out.later hb6);rw [←hW6];clear hW6 hb6;refine hK.out _ _ (fun _ _=>HB6.out) ?_;clear hK;try simp only [stp.pt]
 refine held.wpT_one (i:=9) (by kernel_rfl) rfl (fun Kc hK=>?_);refine cat.step_app (V0:=W6) (E:=159) (sz:=5) (n:=0) (v:= .slice none 0 0) (xs:=[]) ⟨World.ownsRow_nil _ _ _ _,Below.refl _ _⟩ rfl (.tmp 29) (.tmp 33) 77 rfl _ 56 underlying77 infoCl rfl (by decide) rfl (some ⟨w5.heap.size,0,none⟩) 1 1 _ (fun h=>by cases h) rfl rfl HLi.out (fun u hu=>by simp only [List.mem_cons,List.mem_nil_iff,or_false] at hu;rcases hu with rfl |rfl |rfl |rfl |rfl<;>rfl) (by decide) (by decide) 1 _ rfl rfl ?_;intro A7 c7 w7 hM7 hA7 _;obtain⟨g,rfl,hg7,_,hr7⟩:=Jrv hM7.own (by simp);rw [List.nil_append] at hr7;have HB7:=hid (HB6.out.trans (hM7.below.mono HB6.out.size));have HR7:=hid hr7;have HG7:=hid (Nat.le_trans HB6.out.size hg7);have HO7:=hid (HO6.out.later hM7.below);have HG7b:=hid (Nat.lt_of_lt_of_le HO6.out.lt hg7);clear hM7 hA7 hg7 hr7 HLi HO6;refine hK.out _ _ (fun _ _=>HB7.out) ?_;clear hK;try simp only [stp.pt]
 refine stp.tk 10 35 ?_;refine stp.tk 11 36 ?_;refine held.wpT_one (i:=12) (by kernel_rfl) rfl (fun Kc hK=>?_);have e7:=stp.old HB7.out HX3.out;have y1:=(stp.cs4 e7).2.1;have z1:=Jab e7 1;obtain⟨W8,hW8⟩:=words.nm (w7.setCell ⟨x,1,none⟩ (.slice (some ⟨g,0,none⟩) 1 c7));have hxg:x≠g:=by have:=HG7.out;have:=lt_of_some HX3.out;omega
 have hxo:go≠x∧go≠g:=by have:=HG5.out;have:=lt_of_some HX3.out;have:=HG7b.out;omega
 have HF:Hid (Below x w2 W8∧One W8 x x v g go c7 co 0 0 0 0 (.slice none 0 0)):=hid (by rw [hW8];have hle:x≤W3.heap.size:=Nat.le_of_lt (lt_of_some HX3.out);exact⟨((HX.out▸(HB3.out.trans (HB7.out.mono HB3.out.size))):Below x w2 w7).setCell (p:=⟨x,1,none⟩) (Nat.le_refl _) _,⟨stp.put (cs:=[.pointer (some ⟨v,0,none⟩),.slice none 0 0,.int .i64 0,.slice none 0 0]) e7 1 [.slice (some ⟨g,0,none⟩) 1 c7] (show 1+1≤4 by decide),HR7.out.same (heap_setCell_other _ _ _ _ (Ne.symm hxg)),HO7.out.same (heap_setCell_other _ _ _ _ hxo.1),Nat.le_refl _,Nat.le_trans hle HG7.out,Nat.le_trans hle HG5.out,hxg,hxo⟩⟩);go_simp
 rw [←hW8];clear hW8 e7 y1 z1 hxg hxo HR7 HO7 HB7 HB6 HB5 HO5 HG7 HG5 HG7b;refine hK.out _ _ (fun h=>absurd h (by decide)) ?_;clear hK;try simp only
 refine held.wpT_done (by kernel_rfl) ?_ _;go_wp2_with fail
 rw [rounds_succ];go_wp2_with fail
 go_ret
 exact⟨_,bk,gs,gs2,x,x,g,go,c7,co,w2,rfl,HSv.out,HX.out,HB2.out,HF.out.1,by rw [←HV.out];exact HF.out.2⟩
end Go.Proofs.YtekekhgjobahaaaGreatDoor.rep
