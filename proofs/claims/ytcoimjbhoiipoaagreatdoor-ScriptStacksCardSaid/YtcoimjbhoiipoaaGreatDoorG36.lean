import Derived.Test.YtcoimjbhoiipoaaGreatDoorG34
set_option maxHeartbeats 1600000
set_option maxRecDepth 100000
open Go.Lib (hid)
open Go.Proofs.Tryz
namespace Go.Proofs.YtcoimjbhoiipoaaGreatDoor.ext
open Go.RowKit words

end Go.Proofs.YtcoimjbhoiipoaaGreatDoor.ext

namespace Go.Proofs.YtcoimjbhoiipoaaGreatDoor.ima
open Go.RowKit words ext name tre
theorem Jo9 (n:Nd) (m:Int) (w:World) (hm:w.cell? ⟨0,0,none⟩=some (.int .i64 m)) (h:treeB n=true) (hcc:countC n=(count n:Int)) (hc:count n≤4096) (hl:(nb n).length≤4194297) (hd:depth n≤1000):
  Calls prog 14 #[.string (imgB n)] w fun e w'=>(∃g,e= .returned (.tuple #[.pointer (some ⟨g,0,none⟩),.int .i64 0])∧Brn w' w'.heap.size g (flatN 0 n))∧Below w.heap.size w w':=by
 have hC:=Jlx n m w hm h hc hl;obtain⟨q,hq⟩:=words.nm (imgB n);rw [←hq] at hC ⊢;have HC:=hid hC;have HM:=hid hm;clear hq hC hm;go_enter func14,ntmps14
 go_wp2_with fail
 refine HC.out.mono ?_;rintro e w1 ⟨r,rfl,hn,hb1⟩;obtain⟨W2,hW2⟩:=words.nm (w1.alloc (.cells (rawCells n r) 28));have hb2:Below w1.heap.size w1 W2:=words.b1 hW2;have hx2:Box W2 w1.heap.size n r:=by rw [hW2];exact Box.new w1 n r
 have hn2:=(hn.at_ fun k hk=>hk.lt).later hb2;have hb02:=hb1.trans (hb2.mono hb1.size);have hN:=Jq5 n r m W2 hn2 (below_cell HM.out hb02) hd h hcc hc;unfold ndV rawCells at hN;have HNew:=hid hN;have HB2:=hid hb02;have HX2:=hid hx2;unfold rawCells at hW2;have HW2:=hid hW2;clear hn hb1 hb2 hx2 hn2 hb02 hN hW2 HC;unfold ndV rawCells;go_upto_region 2 with fail
 rw [←HW2.out];clear HW2;obtain⟨b0,b1,b2,b3,b4,b5,b6⟩:=HX2.out.cells;go_wp2_with fail
 refine HNew.out.mono ?_;rintro e w3 ⟨⟨g,rfl,hbr⟩,hb3⟩;have HF:=hid (And.intro hbr (HB2.out.trans (hb3.mono HB2.out.size)));clear hbr hb3 HNew b0 b1 b2 b3 b4 b5 b6;go_wp2_with fail
 go_ret2
 exact⟨⟨g,rfl,HF.out.1⟩,HF.out.2⟩
theorem Jqs (s:ByteArray) (m:Int) (w:World) (hm:w.cell? ⟨0,0,none⟩=some (.int .i64 m)) (hs:s.size≤140737488355328)
  (hd:∀n c,nodeP 4097 0 (Lib.trimPrefix s.data.toList magic.data.toList)=some (n,[],c)→depth n≤1000) (hn:decB s=none):
  Calls prog 14 #[.string s] w fun e w'=>e= .returned (.tuple #[.pointer none,.int .i64 1])∧Below w.heap.size w w':=by
 have HC:=hid (show Calls prog 25 #[.string s] w fun e w'=>e= .returned (.tuple #[.agg #[.int .i64 0,.bool false,.slice none 0 0,.slice none 0 0,.int .i64 0,.slice none 0 0,.string ⟨#[]⟩],.int .i64 1])∧Below w.heap.size w w' from Ji0 hm hs hd hn);clear hm hd hn;go_enter func14,ntmps14
 go_wp2_with fail
 refine HC.out.mono ?_;rintro e w1 ⟨rfl,hb1⟩;have HB1:=hid hb1;clear hb1 HC;go_wp2_with fail
 go_ret2
 exact⟨rfl,HB1.out.alloc HB1.out.size _⟩
end Go.Proofs.YtcoimjbhoiipoaaGreatDoor.ima
