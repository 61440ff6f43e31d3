import Derived.Test.YtekekhgjobahaaaGreatDoorA1
import Derived.Lib.LazyBuf
import Derived.Deep.Upon
set_option maxHeartbeats 6400000
set_option maxRecDepth 100000
open Go.Lib (hid)
open Go.Proofs.Tryz
namespace Go.Proofs.YtekekhgjobahaaaGreatDoor.tal
open Go.RowKit words

def bx8 (u0 u1 u2 u3 u4 u5 u6 u7:Value):Obj:= .cells #[u0,u1,u2,u3,u4,u5,u6,u7] 57 (0,0)
def zx8:Obj:=bx8 (.int .i64 0) (.int .i64 0) (.int .i64 0) (.int .i64 0) (.int .i64 0) (.string ⟨#[]⟩) (.slice none 0 0) (.bool false)
def set8 (w:World) (g:Nat) (u0 u1 u2 u3 u4 u5 u6 u7:Value):World:=(((((((w.setCell ⟨g,0,none⟩ u0).setCell ⟨g,1,none⟩ u1).setCell ⟨g,2,none⟩ u2).setCell ⟨g,3,none⟩ u3).setCell ⟨g,4,none⟩ u4).setCell ⟨g,5,none⟩ u5).setCell ⟨g,6,none⟩ u6).setCell ⟨g,7,none⟩ u7
theorem over8 {w:World} {g:Nat} {T:TypeId} {c0 c1 c2 c3 c4 c5 c6 c7 u0 u1 u2 u3 u4 u5 u6 u7:Value} (h:w.heap[g]?=some (.cells #[c0,c1,c2,c3,c4,c5,c6,c7] T (0,0))):(set8 w g u0 u1 u2 u3 u4 u5 u6 u7).heap[g]?=some (.cells #[u0,u1,u2,u3,u4,u5,u6,u7] T (0,0)):=by
 simp [set8,World.setCell,Array.getElem?_modify,h]
theorem below8 {B g:Nat} {a b:World} (h:Below B a b) (hg:B≤g) (u0 u1 u2 u3 u4 u5 u6 u7:Value):Below B a (set8 b g u0 u1 u2 u3 u4 u5 u6 u7):=(((((((h.setCell (p:=⟨g,0,none⟩) hg u0).setCell (p:=⟨g,1,none⟩) hg u1).setCell (p:=⟨g,2,none⟩) hg u2).setCell (p:=⟨g,3,none⟩) hg u3).setCell (p:=⟨g,4,none⟩) hg u4).setCell (p:=⟨g,5,none⟩) hg u5).setCell (p:=⟨g,6,none⟩) hg u6).setCell (p:=⟨g,7,none⟩) hg u7
def resV (e k z wh:Int) (x:ByteArray):Value:= .agg #[.int .i64 e,.int .i64 k,.int .i64 z,.int .i64 wh,.int .i64 0,.string x,.slice none 0 0,.bool false]
def opV (k:Int) (p:ByteArray) (o n i:Int) (g:ByteArray):Value:= .agg #[.int .i64 k,.string p,.int .i64 o,.int .i64 n,.int .i64 i,.string g]
theorem put8 {a w3:World} {B rb:Nat} (hB:B≤rb) (hx:w3.heap[rb]?=some zx8) (hb:Below B a w3) (e k z wh:Int) (x:ByteArray):
  ∀w4,w4=set8 w3 rb (.int .i64 e) (.int .i64 k) (.int .i64 z) (.int .i64 wh) (.int .i64 0) (.string x) (.slice none 0 0) (.bool false)→w4.cell? ⟨rb,0,none⟩=some (.int .i64 e)∧w4.cell? ⟨rb,1,none⟩=some (.int .i64 k)∧w4.cell? ⟨rb,2,none⟩=some (.int .i64 z)∧w4.cell? ⟨rb,3,none⟩=some (.int .i64 wh)∧
   w4.cell? ⟨rb,4,none⟩=some (.int .i64 0)∧w4.cell? ⟨rb,5,none⟩=some (.string x)∧w4.cell? ⟨rb,6,none⟩=some (.slice none 0 0)∧w4.cell? ⟨rb,7,none⟩=some (.bool false)∧Below B a w4:=fun w4 hw=>by
 have ho:=over8 (u0:= .int .i64 e) (u1:= .int .i64 k) (u2:= .int .i64 z) (u3:= .int .i64 wh) (u4:= .int .i64 0) (u5:= .string x) (u6:= .slice none 0 0) (u7:= .bool false) hx;have hbd:=below8 hb hB (.int .i64 e) (.int .i64 k) (.int .i64 z) (.int .i64 wh) (.int .i64 0) (.string x) (.slice none 0 0) (.bool false);rw [←hw] at ho hbd;exact⟨Jaa ho 0,Jaa ho 1,Jaa ho 2,Jaa ho 3,Jaa ho 4,Jaa ho 5,Jaa ho 6,Jaa ho 7,hbd⟩
def badB (k o n:Int):Bool:=(k==4&&(decide (o<0)||decide (n<0)))||(k==6&&decide (n<1))
def chkI (k o n:Int):Int:=if badB k o n=true then 1 else 0
theorem chk_any (k:Int) (p:ByteArray) (o n i:Int) (g:ByteArray) (w:World):Calls prog 156 #[opV k p o n i g] w fun e w'=>e= .returned (.int .i64 (chkI k o n))∧Below w.heap.size w w':=by
 by_cases h4:k=4
 ·subst h4
  by_cases ho:o<0
  ·have HV:Hid (chkI 4 o n=1):=hid (by unfold chkI badB;simp [ho])
   obtain⟨W1,hW1⟩:=words.nm (w.alloc (.cells #[.int .i64 4,.string p,.int .i64 o,.int .i64 n,.int .i64 i,.string g] 55));have hb1:=words.b1 hW1;have hc1:W1.heap[w.heap.size]?=some (.cells #[.int .i64 4,.string p,.int .i64 o,.int .i64 n,.int .i64 i,.string g] 55 (0,0)):=by rw [hW1];exact heap_alloc_new w _
   have q0:=Jaa hc1 0;have q2:=Jaa hc1 2;have q3:=Jaa hc1 3;have HB:=hid hb1;have HW:=hid hW1;clear hW1 hb1 hc1;unfold opV;go_enter func156,ntmps156
   go_upto_region 1 with fail
   rw [←HW.out];clear HW;go_wp2_with fail
   go_ret
   exact⟨by rw [HV.out];rfl,HB.out⟩
  by_cases hn:n<0
  ·have HV:Hid (chkI 4 o n=1):=hid (by unfold chkI badB;simp [hn])
   obtain⟨W1,hW1⟩:=words.nm (w.alloc (.cells #[.int .i64 4,.string p,.int .i64 o,.int .i64 n,.int .i64 i,.string g] 55));have hb1:=words.b1 hW1;have hc1:W1.heap[w.heap.size]?=some (.cells #[.int .i64 4,.string p,.int .i64 o,.int .i64 n,.int .i64 i,.string g] 55 (0,0)):=by rw [hW1];exact heap_alloc_new w _
   have q0:=Jaa hc1 0;have q2:=Jaa hc1 2;have q3:=Jaa hc1 3;have HB:=hid hb1;have HW:=hid hW1;clear hW1 hb1 hc1;unfold opV;go_enter func156,ntmps156
   go_upto_region 1 with fail
   rw [←HW.out];clear HW;go_wp2_with fail
   go_ret
   exact⟨by rw [HV.out];rfl,HB.out⟩
  have HV:Hid (chkI 4 o n=0):=hid (by unfold chkI badB;simp [ho,hn]);obtain⟨W1,hW1⟩:=words.nm (w.alloc (.cells #[.int .i64 4,.string p,.int .i64 o,.int .i64 n,.int .i64 i,.string g] 55));have hb1:=words.b1 hW1;have hc1:W1.heap[w.heap.size]?=some (.cells #[.int .i64 4,.string p,.int .i64 o,.int .i64 n,.int .i64 i,.string g] 55 (0,0)):=by rw [hW1];exact heap_alloc_new w _
  have q0:=Jaa hc1 0;have q2:=Jaa hc1 2;have q3:=Jaa hc1 3;have HB:=hid hb1;have HW:=hid hW1;clear hW1 hb1 hc1;unfold opV;go_enter func156,ntmps156
  go_upto_region 1 with fail
  rw [←HW.out];clear HW;go_wp2_with fail
  go_ret
  exact⟨by rw [HV.out];rfl,HB.out⟩
 have g4:(k==4)=false:=by rw [beq_eq_false_iff_ne];exact h4
 by_cases h6:k=6
 ·subst h6
  clear g4 h4;by_cases hn:n<1
  ·have HV:Hid (chkI 6 o n=1):=hid (by unfold chkI badB;simp [hn])
   obtain⟨W1,hW1⟩:=words.nm (w.alloc (.cells #[.int .i64 6,.string p,.int .i64 o,.int .i64 n,.int .i64 i,.string g] 55));have hb1:=words.b1 hW1;have hc1:W1.heap[w.heap.size]?=some (.cells #[.int .i64 6,.string p,.int .i64 o,.int .i64 n,.int .i64 i,.string g] 55 (0,0)):=by rw [hW1];exact heap_alloc_new w _
   have q0:=Jaa hc1 0;have q2:=Jaa hc1 2;have q3:=Jaa hc1 3;have HB:=hid hb1;have HW:=hid hW1;clear hW1 hb1 hc1;unfold opV;go_enter func156,ntmps156
   go_upto_region 1 with fail
   rw [←HW.out];clear HW;go_wp2_with fail
   go_ret
   exact⟨by rw [HV.out];rfl,HB.out⟩
  have HV:Hid (chkI 6 o n=0):=hid (by unfold chkI badB;simp [hn]);obtain⟨W1,hW1⟩:=words.nm (w.alloc (.cells #[.int .i64 6,.string p,.int .i64 o,.int .i64 n,.int .i64 i,.string g] 55));have hb1:=words.b1 hW1;have hc1:W1.heap[w.heap.size]?=some (.cells #[.int .i64 6,.string p,.int .i64 o,.int .i64 n,.int .i64 i,.string g] 55 (0,0)):=by rw [hW1];exact heap_alloc_new w _
  have q0:=Jaa hc1 0;have q2:=Jaa hc1 2;have q3:=Jaa hc1 3;have HB:=hid hb1;have HW:=hid hW1;clear hW1 hb1 hc1;unfold opV;go_enter func156,ntmps156
  go_upto_region 1 with fail
  rw [←HW.out];clear HW;go_wp2_with fail
  go_ret
  exact⟨by rw [HV.out];rfl,HB.out⟩
 have g6:(k==6)=false:=by rw [beq_eq_false_iff_ne];exact h6
 ·have HV:Hid (chkI k o n=0):=hid (by unfold chkI badB;simp [h4,h6])
  clear h4 h6;obtain⟨W1,hW1⟩:=words.nm (w.alloc (.cells #[.int .i64 k,.string p,.int .i64 o,.int .i64 n,.int .i64 i,.string g] 55));have hb1:=words.b1 hW1;have hc1:W1.heap[w.heap.size]?=some (.cells #[.int .i64 k,.string p,.int .i64 o,.int .i64 n,.int .i64 i,.string g] 55 (0,0)):=by rw [hW1];exact heap_alloc_new w _
  have q0:=Jaa hc1 0;have q2:=Jaa hc1 2;have q3:=Jaa hc1 3;have HB:=hid hb1;have HW:=hid hW1;clear hW1 hb1 hc1;unfold opV;go_enter func156,ntmps156
  go_upto_region 1 with fail
  rw [←HW.out];clear HW;go_wp2_with fail
  go_ret
  exact⟨by rw [HV.out];rfl,HB.out⟩
theorem Jgs (w:World) (a b:Obj):∃(g1:Nat) (W:World),(w.alloc a).alloc b=W∧w.heap.size+1=g1∧W.heap[w.heap.size]?=some a∧W.heap[g1]?=some b∧Below w.heap.size w W∧w.heap.size≤g1:=by
 have hb1:Below w.heap.size w (w.alloc a):=(Below.refl _ _).alloc (Nat.le_refl _) _;have hb2:Below (w.alloc a).heap.size (w.alloc a) ((w.alloc a).alloc b):=(Below.refl _ _).alloc (Nat.le_refl _) _;have h1:(w.alloc a).heap[w.heap.size]?=some a:=heap_alloc_new w _;refine⟨_,_,rfl,rfl,(hb2.block _ (lt_of_some h1)).trans h1,?_,hb1.trans (hb2.mono hb1.size),by omega⟩;rw [←World.size_alloc w a];exact heap_alloc_new _ _
structure Sp (B s t m:Nat) (A:Option Addr) (c:Nat) (L:List (Nat×Int)) (ad ep r n:Int) (C:cur.Cs) (w:World):Prop where
 ge:B≤s
 blk:w.heap[s]?=some (.cells #[.slice A L.length c,.int .i64 ad,.int .i64 ep,.pointer (some ⟨t,0,none⟩)] 92 (0,0))
 tb:cur.Tb w B t m r n C
section
variable {B s t m:Nat} {A:Option Addr} {c:Nat} {L:List (Nat×Int)} {ad ep r n n':Int} {C C':cur.Cs} {w w':World}
theorem Sp.later (h:Sp B s t m A c L ad ep r n C w) (hb:Below w.heap.size w w'):Sp B s t m A c L ad ep r n C w':=⟨h.ge,(hb.block _ (lt_of_some h.blk)).trans h.blk,h.tb.later hb⟩
theorem Sp.ne (h:Sp B s t m A c L ad ep r n C w):¬cur.Bk t m s:=fun hj=>absurd (h.tb.type hj h.blk) (by decide)
theorem Sp.lt (h:Sp B s t m A c L ad ep r n C w):s<w.heap.size∧t<w.heap.size∧m<w.heap.size:=⟨lt_of_some h.blk,(h.tb.lt t (.inl rfl)).2,(h.tb.lt m (.inr rfl)).2⟩
theorem Sp.low {q:Nat} (h:Sp B s t m A c L ad ep r n C w) (hq:s<q∧t<q∧m<q) (hb:Below q w w'):Sp B s t m A c L ad ep r n C w':=
 ⟨h.ge,(hb.block _ hq.1).trans h.blk,h.tb.tn (S:=fun j=>q≤j) ⟨hb.os,hb.tape,hb.output,hb.size,fun k hk hS=>hb.block k (Nat.lt_of_not_le hS)⟩ fun j hj=>by
   rcases hj with rfl |rfl
   ·exact Nat.not_le_of_lt hq.2.1
   ·exact Nat.not_le_of_lt hq.2.2⟩
end
theorem tb_base {w:World} {B B' t m:Nat} {r n:Int} {C:cur.Cs} (h:cur.Tb w B t m r n C) (hB:B'≤B):cur.Tb w B' t m r n C:=⟨Nat.le_trans hB h.1,Nat.le_trans hB h.2.1,h.2.2⟩
def resP (e id:Int) (A:Option Addr) (n c:Nat) (b:Bool):Value:= .agg #[.int .i64 e,.int .i64 0,.int .i64 0,.int .i64 0,.int .i64 id,.string ⟨#[]⟩,.slice A n c,.bool b]
def MadeS (w:World) (A:Option Addr) (c:Nat) (L:List (Nat×Int)) (ad r:Int) (e:Ending) (w':World):Prop:=∃s t m,e= .returned (.pointer (some ⟨s,0,none⟩))∧Sp w.heap.size s t m A c L ad 0 r 0 [] w'∧Below w.heap.size w w'
theorem snew_any (A:Option Addr) (c:Nat) (L:List (Nat×Int)) (ad room r:Int) (w:World) (hr:r=min (max room 1) 1024):
  Calls prog 54 #[.agg #[.slice A L.length c,.int .i64 ad],.int .i64 room] w (MadeS w A c L ad r):=by
 obtain⟨W1,hW1⟩:=words.nm (w.alloc (.cells #[.slice A L.length c,.int .i64 ad] 38));have hb1:=words.b1 hW1;have HS:=hid (show W1.heap[w.heap.size]?=some (.cells #[.slice A L.length c,.int .i64 ad] 38 (0,0)) by rw [hW1];exact heap_alloc_new w _);have HB1:=hid hb1;have HW1:=hid hW1;have HSS:Hid (∀w':World,Below W1.heap.size W1 w'→(w'.cell? ⟨w.heap.size,0,none⟩=some (.slice A L.length c)∧w'.cell? ⟨w.heap.size,1,none⟩=some (.int .i64 ad)∧Below W1.heap.size W1 w')):=hid fun w' hb=>by
  have e1:=(hb.block _ (lt_of_some HS.out)).trans HS.out;exact⟨Jaa e1 0,Jaa e1 1,hb⟩
 have HBv:Hid (Below W1.heap.size W1 W1.drew):=hid (Below.refl _ _).drew;have HC:Hid (∀w':World,Calls prog 90 #[.int .i64 room] w' (cur.MadeC w' r)):=hid fun w'=>cur.new_any room r w' hr;clear hW1 hb1 hr;go_enter func54,ntmps54
 go_upto_region 1 with fail
 rw [←HW1.out];clear HW1;refine wp_region_held_drew (S:=fun w'=>(w'.cell? ⟨w.heap.size,0,none⟩=some (.slice A L.length c)∧w'.cell? ⟨w.heap.size,1,none⟩=some (.int .i64 ad)∧Below W1.heap.size W1 w')) (by kernel_rfl) (HSS.out _ HBv.out) (fun hHeld=>?_);refine words.tk 0 5 (v:=?_) ?_ ?_
 rotate_left 1
 ·intro _ h;(try dsimp only at h);go_simp;(try with_reducible rfl)
 try simp only [words.pt]
 refine words.tk 1 6 (v:=?_) ?_ ?_
 rotate_left 1
 ·intro _ h;(try dsimp only at h);go_simp;(try with_reducible rfl)
 try simp only [words.pt]
 refine wpAnyH_ready (rs:=[2]) (by kernel_rfl) (by simp) (.cons rfl (fun K hK=>?_) .nil);go_simp
 go_at_call 90
 refine (HC.out _).mono ?_;rintro en v1 ⟨t,m,rfl,htb,hv1⟩;have hq1:=HBv.out.trans (hv1.mono HBv.out.size);clear hHeld;refine hK.out _ _ (HSS.out _ hq1) (fun hHeld=>?_);clear hK;refine words.tk 3 8 (v:=?_) ?_ ?_
 rotate_left 1
 ·intro _ h;(try dsimp only at h);go_simp;(try with_reducible rfl)
 try simp only [words.pt]
 refine wpAnyH_ready (rs:=[4]) (by kernel_rfl) (by simp) (.cons rfl (fun K hK=>?_) .nil);go_simp
 clear hHeld;refine hK.out _ _ (HSS.out _ (hq1.alloc (Nat.le_trans HBv.out.size hv1.size) _)) (fun hHeld=>?_);clear hK;refine words.tk 5 4 (v:=?_) ?_ ?_
 rotate_left 1
 ·intro _ h;(try dsimp only at h);go_simp;(try with_reducible rfl)
 try simp only [words.pt]
 refine wpAnyH_done (by kernel_rfl) ?_ _;clear hHeld;obtain⟨V,hV⟩:=words.nm (v1.alloc (.cells #[.slice A L.length c,.int .i64 ad,.int .i64 0,.pointer (some ⟨t,0,none⟩)] 92));have hbV:Below v1.heap.size v1 V:=words.b1 hV;have hxV:V.heap[v1.heap.size]?=some (.cells #[.slice A L.length c,.int .i64 ad,.int .i64 0,.pointer (some ⟨t,0,none⟩)] 92 (0,0)):=by rw [hV];exact heap_alloc_new v1 _
 have hbw:=HB1.out.trans ((hq1.trans (hbV.mono hq1.size)).mono HB1.out.size);have HEnd:Hid (MadeS w A c L ad r (.returned (.pointer (some ⟨v1.heap.size,0,none⟩))) V):=hid ⟨_,t,m,rfl,⟨Nat.le_trans HB1.out.size hq1.size,hxV,tb_base (htb.later hbV) (Nat.le_trans HB1.out.size HBv.out.size)⟩,hbw⟩;have HV:=hid hV;clear hV hbV hxV hbw htb hv1 hq1 HSS HBv HC;rw [←HV.out];go_wp2_with fail
 go_ret
 exact HEnd.out
def Bs (s t m:Nat) (j:Nat):Prop:=j=s∨cur.Bk t m j
theorem Sp.bs {B s t m:Nat} {A:Option Addr} {c:Nat} {L:List (Nat×Int)} {ad ep r n:Int} {C:cur.Cs} {w:World} (h:Sp B s t m A c L ad ep r n C w) {j:Nat} (hj:Bs s t m j):B≤j:=by
 rcases hj with rfl |hj
 ·exact h.ge
 ·exact (h.tb.lt j hj).1
def stkV (A:Option Addr) (n c:Nat) (ad:Int):Value:= .agg #[.slice A n c,.int .i64 ad]

structure Rc where
 cl:Int
 ix:Int
 k:Int
 p:ByteArray
 o:Int
 n:Int
 i:Int
 g:ByteArray
 e:Int
 rk:Int
 z:Int
 wh:Int
 id:Int
 x:ByteArray
 N:List ByteArray
 fin:Bool
 ca:Int
 ma:Int
 re:Int
 A:Option Addr
 c:Nat
def Rc.cs (r:Rc):List Value:=[.int .i64 r.cl,.int .i64 r.ix,.int .i64 r.k,.string r.p,.int .i64 r.o,.int .i64 r.n,.int .i64 r.i,.string r.g,.int .i64 r.e,.int .i64 r.rk,.int .i64 r.z,.int .i64 r.wh,.int .i64 r.id,.string r.x,.slice r.A r.N.length r.c,.bool r.fin,.int .i64 r.ca,.int .i64 r.ma,.int .i64 r.re]
theorem Rc.len (r:Rc):r.cs.length=19:=rfl
theorem Rc.one (r:Rc):∀u∈r.cs,u.oneCell'=true:=by
 unfold Rc.cs;intro u hu;simp only [List.mem_cons,List.not_mem_nil,or_false] at hu;rcases hu with rfl |rfl |rfl |rfl |rfl |rfl |rfl |rfl |rfl |rfl |rfl |rfl |rfl |rfl |rfl |rfl |rfl |rfl |rfl<;>rfl
def cmpI (a b:Int):Int:=if a<b then -1 else if b<a then 1 else 0
theorem Jsj (a:Int) (w:World):Calls prog 128 #[.int .i64 a] w fun e w'=>e= .returned (.bool false)∧w'=w:=by
 go_enter func128,ntmps128
 have hd:(!(a==a))=false:=by simp
 go_wp2_with fail
 go_ret
 exact⟨by simp,rfl⟩
theorem Jwg (a b:Int) (w:World):Calls prog 93 #[.int .i64 a,.int .i64 b] w fun e w'=>e= .returned (.int .i64 (cmpI a b))∧w'=w:=by
 have HNa:=hid (Jsj a w);have HNb:=hid (Jsj b w);rcases Int.lt_trichotomy a b with h |h |h
 ·have HF:=hid (show cmpI a b= -1 by unfold cmpI;rw [if_pos h])
  go_enter func93,ntmps93
  go_wp2_with fail
  refine HNa.out.mono ?_;rintro e w1 ⟨rfl,rfl⟩;go_wp2_with fail
  refine HNb.out.mono ?_;rintro e w1 ⟨rfl,rfl⟩;go_wp2_with fail
  go_ret
  exact⟨by rw [HF.out];rfl,rfl⟩
 ·subst h
  have HF:=hid (show cmpI a a=0 by unfold cmpI;rw [if_neg (by omega),if_neg (by omega)]);have h1:¬a<a:=by omega
  go_enter func93,ntmps93
  go_wp2_with fail
  refine HNa.out.mono ?_;rintro e w1 ⟨rfl,rfl⟩;go_wp2_with fail
  refine HNb.out.mono ?_;rintro e w1 ⟨rfl,rfl⟩;go_wp2_with fail
  go_ret
  exact⟨by rw [HF.out];rfl,rfl⟩
 ·have HF:=hid (show cmpI a b=1 by unfold cmpI;rw [if_neg (by omega),if_pos h])
  have h1:¬a<b:=by omega
  go_enter func93,ntmps93
  go_wp2_with fail
  refine HNa.out.mono ?_;rintro e w1 ⟨rfl,rfl⟩;go_wp2_with fail
  refine HNb.out.mono ?_;rintro e w1 ⟨rfl,rfl⟩;go_wp2_with fail
  go_ret
  exact⟨by rw [HF.out];rfl,rfl⟩
theorem Jnl (r s:Rc) (w:World):Calls prog 92 #[.agg #[.int .i64 r.cl,.int .i64 r.ix,.int .i64 r.k,.string r.p,.int .i64 r.o,.int .i64 r.n,.int .i64 r.i,.string r.g,.int .i64 r.e,.int .i64 r.rk,.int .i64 r.z,.int .i64 r.wh,.int .i64 r.id,.string r.x,.slice r.A r.N.length r.c,.bool r.fin,.int .i64 r.ca,.int .i64 r.ma,.int .i64 r.re],.agg #[.int .i64 s.cl,.int .i64 s.ix,.int .i64 s.k,.string s.p,.int .i64 s.o,.int .i64 s.n,.int .i64 s.i,.string s.g,.int .i64 s.e,.int .i64 s.rk,.int .i64 s.z,.int .i64 s.wh,.int .i64 s.id,.string s.x,.slice s.A s.N.length s.c,.bool s.fin,.int .i64 s.ca,.int .i64 s.ma,.int .i64 s.re]] w fun e w'=>e= .returned (.int .i64 (cmpI r.ma s.ma))∧Below w.heap.size w w':=by
 obtain⟨g1,W1,hW1,eg1,hxr,hxs,hb1,lg1⟩:=Jgs w (.cells #[.int .i64 r.cl,.int .i64 r.ix,.int .i64 r.k,.string r.p,.int .i64 r.o,.int .i64 r.n,.int .i64 r.i,.string r.g,.int .i64 r.e,.int .i64 r.rk,.int .i64 r.z,.int .i64 r.wh,.int .i64 r.id,.string r.x,.slice r.A r.N.length r.c,.bool r.fin,.int .i64 r.ca,.int .i64 r.ma,.int .i64 r.re] 59) (.cells #[.int .i64 s.cl,.int .i64 s.ix,.int .i64 s.k,.string s.p,.int .i64 s.o,.int .i64 s.n,.int .i64 s.i,.string s.g,.int .i64 s.e,.int .i64 s.rk,.int .i64 s.z,.int .i64 s.wh,.int .i64 s.id,.string s.x,.slice s.A s.N.length s.c,.bool s.fin,.int .i64 s.ca,.int .i64 s.ma,.int .i64 s.re] 59);have c6:=Jaa hxr 17;have c4:=Jaa hxs 17;have HB1:=hid hb1;have HW1:=hid hW1;have HEG:=hid eg1;have HC:=hid (Jwg r.ma s.ma W1);clear hW1 eg1 hxr hxs hb1 lg1;go_enter func92,ntmps92
 go_upto_region 1 with fail
 rw [HW1.out];simp only [HEG.out];clear HW1 HEG;go_wp2_with fail
 refine HC.out.mono ?_;rintro e w1 ⟨rfl,rfl⟩;go_wp2_with fail
 go_ret
 exact⟨rfl,HB1.out⟩
def Lies (w:World) (A:Option Addr) (xs:List Value):Prop:=∀j u,xs[j]?=some u→∃b off,A=some ⟨b,off,none⟩∧b<w.heap.size∧w.cell? ⟨b,off+j,none⟩=some u
def Copied (E:TypeId) (size n:Nat) (xs:List Value) (w:World) (e:Ending) (w':World):Prop:=
 (∃A c,e= .returned (.slice A n c)∧n≤c∧(A=none→n=0∧c=0)∧w'.ownsRow w.heap.size E size (.slice A n c) n xs)∧Below w.heap.size w w'
theorem own_facts {w:World} {B:Nat} {E:TypeId} {size n:Nat} {v:Value} {xs:List Value} (h:w.ownsRow B E size v n xs):∃A c,v= .slice A n c∧n≤c∧(A=none→n=0∧c=0):=by
 rcases h.2 with⟨rfl,rfl⟩ |⟨g,cap,cur,rfl,_,_,hle,_⟩
 ·exact⟨none,0,rfl,Nat.le_refl _,fun _=>⟨rfl,rfl⟩⟩
 ·exact⟨_,cap,rfl,hle,fun h=>by cases h⟩
theorem add_place (b off j:Nat):(⟨b,off,none⟩:Addr).add j=⟨b,off+j,none⟩:=by unfold Addr.add;split<;>simp_all
theorem infoRec:(Tryz.prog.info? 59).map (fun i=>(i.zero,i.size,i.bytes))=some (some (.agg #[.int .i64 0,.int .i64 0,.int .i64 0,.string ⟨#[]⟩,.int .i64 0,.int .i64 0,.int .i64 0,.string ⟨#[]⟩,.int .i64 0,.int .i64 0,.int .i64 0,.int .i64 0,.int .i64 0,.string ⟨#[]⟩,.slice none 0 0,.bool false,.int .i64 0,.int .i64 0,.int .i64 0]),19,192):=by kernel_rfl
theorem infoTxt:(Tryz.prog.info? 9).map (fun i=>(i.zero,i.size,i.bytes))=some (some (.string ⟨#[]⟩),1,16):=by kernel_rfl
theorem copy_rec (A:Option Addr) (n c:Nat) (xs:List Value) (w:World) (hN:Lies w A xs) (hz:A=none→n=0∧c=0) (hl:n*192≤140737488355328) (hlen:xs.length=n*19) (hone:∀u∈xs,u.oneCell'=true):
  Calls prog 87 #[.slice A n c] w (Copied 59 19 n xs w):=by
 obtain⟨i0,hi,hz0,hz1,hz2⟩:=lru.info_three infoRec;rcases A with _ |ad
 ·obtain⟨rfl,rfl⟩:=hz rfl
  obtain rfl:xs=[]:=List.eq_nil_of_length_eq_zero (by omega);have heq0:=fun wx=>Lib.run_eql_slice_nil (P:=prog) wx 35 59 none 0 0 0 0 underlying35;clear hN hl hz0 hz1 hz2 hi;go_enter func87,ntmps87
  go_wp2_with fail
  go_ret
  exact⟨⟨none,0,rfl,Nat.le_refl _,fun _=>⟨rfl,rfl⟩,World.ownsRow_nil _ _ _ _⟩,Below.refl _ _⟩
 ·have heq:=fun wx=>Lib.run_eql_slice_nil (P:=prog) wx 35 59 (some ad) n c 0 0 underlying35
  have hnews:Hid (∀j u,xs[j]?=some u→(w.alloc (.cells #[] 59)).cell? (ad.add j)=some u):=hid fun j u hu=>by
   obtain⟨b,off,hA,hB,hc⟩:=hN j u hu;injection hA with hA;subst hA;rw [add_place];exact (((Below.refl w.heap.size w).alloc (Nat.le_refl _) (.cells #[] 59)).cell (p:=⟨b,off+j,none⟩) hB).trans hc
  have HOne:=hid hone;have HLen:=hid hlen;clear hN hone hlen hz;go_enter func87,ntmps87
  go_wp2_with (at_builtin;refine wpList_append_own _ rfl (.tmp 5) (.tmp 6) 35 rfl w.heap.size 59 i0 _ 19 192 underlying35 hi hz0 hz1 hz2 rfl (by omega) (.slice (some ⟨w.heap.size,0,none⟩) 0 0) 0 [] rfl (World.ownsRow_made w #[] 0 (Nat.le_refl _) (by decide) rfl) ad n c xs rfl HLen.out hnews.out HOne.out (by simp only [maxLen];omega) (by omega) (by simp) ?_;intro v4 w4 hown4 hgrow hnil4)
  rw [Nat.zero_add,List.nil_append] at hown4;obtain⟨A4,c4,rfl,h1,h2⟩:=own_facts hown4;have HO4:=hid hown4;have HB4:=hid (lru.keep_grown (S:=w.heap.size) ((Below.refl w.heap.size w).alloc (Nat.le_refl _) (.cells #[] 59)) (World.ownsRow_made w #[] 0 (Nat.le_refl _) (by decide) rfl:(w.alloc (.cells #[] 59)).ownsRow w.heap.size 59 19 _ 0 []) hgrow (Nat.le_refl _) (Nat.le_refl _));clear hown4 hgrow hnil4;go_wp2_with fail
  go_ret
  exact⟨⟨A4,c4,rfl,h1,h2,HO4.out⟩,HB4.out⟩
theorem Jno (A:Option Addr) (n c:Nat) (xs:List Value) (w:World) (hN:Lies w A xs) (hz:A=none→n=0∧c=0) (hl:n*16≤140737488355328) (hlen:xs.length=n*1) (hone:∀u∈xs,u.oneCell'=true):
  Calls prog 88 #[.slice A n c] w (Copied 9 1 n xs w):=by
 obtain⟨i0,hi,hz0,hz1,hz2⟩:=lru.info_three infoTxt;rcases A with _ |ad
 ·obtain⟨rfl,rfl⟩:=hz rfl
  obtain rfl:xs=[]:=List.eq_nil_of_length_eq_zero (by omega);have heq0:=fun wx=>Lib.run_eql_slice_nil (P:=prog) wx 27 9 none 0 0 0 0 underlying27;clear hN hl hz0 hz1 hz2 hi;go_enter func88,ntmps88
  go_wp2_with fail
  go_ret
  exact⟨⟨none,0,rfl,Nat.le_refl _,fun _=>⟨rfl,rfl⟩,World.ownsRow_nil _ _ _ _⟩,Below.refl _ _⟩
 ·have heq:=fun wx=>Lib.run_eql_slice_nil (P:=prog) wx 27 9 (some ad) n c 0 0 underlying27
  have hnews:Hid (∀j u,xs[j]?=some u→(w.alloc (.cells #[] 9)).cell? (ad.add j)=some u):=hid fun j u hu=>by
   obtain⟨b,off,hA,hB,hc⟩:=hN j u hu;injection hA with hA;subst hA;rw [add_place];exact (((Below.refl w.heap.size w).alloc (Nat.le_refl _) (.cells #[] 9)).cell (p:=⟨b,off+j,none⟩) hB).trans hc
  have HOne:=hid hone;have HLen:=hid hlen;clear hN hone hlen hz;go_enter func88,ntmps88
  go_wp2_with (at_builtin;refine wpList_append_own _ rfl (.tmp 5) (.tmp 6) 27 rfl w.heap.size 9 i0 _ 1 16 underlying27 hi hz0 hz1 hz2 rfl (by omega) (.slice (some ⟨w.heap.size,0,none⟩) 0 0) 0 [] rfl (World.ownsRow_made w #[] 0 (Nat.le_refl _) (by decide) rfl) ad n c xs rfl HLen.out hnews.out HOne.out (by simp only [maxLen];omega) (by omega) (by simp) ?_;intro v4 w4 hown4 hgrow hnil4)
  rw [Nat.zero_add,List.nil_append] at hown4;obtain⟨A4,c4,rfl,h1,h2⟩:=own_facts hown4;have HO4:=hid hown4;have HB4:=hid (lru.keep_grown (S:=w.heap.size) ((Below.refl w.heap.size w).alloc (Nat.le_refl _) (.cells #[] 9)) (World.ownsRow_made w #[] 0 (Nat.le_refl _) (by decide) rfl:(w.alloc (.cells #[] 9)).ownsRow w.heap.size 9 1 _ 0 []) hgrow (Nat.le_refl _) (Nat.le_refl _));clear hown4 hgrow hnil4;go_wp2_with fail
  go_ret
  exact⟨⟨A4,c4,rfl,h1,h2,HO4.out⟩,HB4.out⟩
theorem wl_load {ops:Array Oper} {rest:List Oper} {op:Oper} {a:Act} {w:World} {Q:Exit→Act→World→Prop} {x:Operand} {r:Rc} {b o:Nat} (hgd:op.guard=none) (ho:op.op= .load 59 x) (hx:a.eval x= .pointer (some ⟨b,o,none⟩)) (hc:w.rangeAt b o r.cs)
  (h:wpList prog ops Q rest (a.put op.dst (.agg #[.int .i64 r.cl,.int .i64 r.ix,.int .i64 r.k,.string r.p,.int .i64 r.o,.int .i64 r.n,.int .i64 r.i,.string r.g,.int .i64 r.e,.int .i64 r.rk,.int .i64 r.z,.int .i64 r.wh,.int .i64 r.id,.string r.x,.slice r.A r.N.length r.c,.bool r.fin,.int .i64 r.ca,.int .i64 r.ma,.int .i64 r.re])) w):wpList prog ops Q (op::rest) a w:=
 wpList_load_mid hgd 59 x ho b o hx r.cs _ hc underlying59 rfl (by kernel_rfl) h
theorem Jdr (w:World) (r:Rc):(w.alloc (.cells #[.int .i64 0,.int .i64 0,.int .i64 0,.string ⟨#[]⟩,.int .i64 0,.int .i64 0,.int .i64 0,.string ⟨#[]⟩,.int .i64 0,.int .i64 0,.int .i64 0,.int .i64 0,.int .i64 0,.string ⟨#[]⟩,.slice none 0 0,.bool false,.int .i64 0,.int .i64 0,.int .i64 0] 59)).setCells w.heap.size 0 r.cs=w.alloc (.cells #[.int .i64 r.cl,.int .i64 r.ix,.int .i64 r.k,.string r.p,.int .i64 r.o,.int .i64 r.n,.int .i64 r.i,.string r.g,.int .i64 r.e,.int .i64 r.rk,.int .i64 r.z,.int .i64 r.wh,.int .i64 r.id,.string r.x,.slice r.A r.N.length r.c,.bool r.fin,.int .i64 r.ca,.int .i64 r.ma,.int .i64 r.re] 59):=by
 unfold Rc.cs;simp only [World.setCells];simp [World.setCell_alloc_at]
theorem wl_put {ops:Array Oper} {rest:List Oper} {op:Oper} {a:Act} {w:World} {Q:Exit→Act→World→Prop} {x y:Operand} {r:Rc} {n:Nat} (hgd:op.guard=none) (ho:op.op= .store 59 x y) (hn:n=w.heap.size) (hx:a.eval x= .pointer (some ⟨n,0,none⟩)) (hy:a.eval y= .agg #[.int .i64 r.cl,.int .i64 r.ix,.int .i64 r.k,.string r.p,.int .i64 r.o,.int .i64 r.n,.int .i64 r.i,.string r.g,.int .i64 r.e,.int .i64 r.rk,.int .i64 r.z,.int .i64 r.wh,.int .i64 r.id,.string r.x,.slice r.A r.N.length r.c,.bool r.fin,.int .i64 r.ca,.int .i64 r.ma,.int .i64 r.re])
  (h:wpList prog ops Q rest (a.put op.dst undef) (w.alloc (.cells #[.int .i64 r.cl,.int .i64 r.ix,.int .i64 r.k,.string r.p,.int .i64 r.o,.int .i64 r.n,.int .i64 r.i,.string r.g,.int .i64 r.e,.int .i64 r.rk,.int .i64 r.z,.int .i64 r.wh,.int .i64 r.id,.string r.x,.slice r.A r.N.length r.c,.bool r.fin,.int .i64 r.ca,.int .i64 r.ma,.int .i64 r.re] 59))):wpList prog ops Q (op::rest) a (w.alloc (.cells #[.int .i64 0,.int .i64 0,.int .i64 0,.string ⟨#[]⟩,.int .i64 0,.int .i64 0,.int .i64 0,.string ⟨#[]⟩,.int .i64 0,.int .i64 0,.int .i64 0,.int .i64 0,.int .i64 0,.string ⟨#[]⟩,.slice none 0 0,.bool false,.int .i64 0,.int .i64 0,.int .i64 0] 59)):=by
 subst hn;refine wpList_store_mid hgd 59 x y ho w.heap.size 0 r.cs.toArray hx hy (fun j hj=>?_) (by kernel_rfl) (all_oneCell_toArray r.one) ?_
 ·have hj:j<19:=hj
  have hb:=heap_alloc_new w (.cells #[.int .i64 0,.int .i64 0,.int .i64 0,.string ⟨#[]⟩,.int .i64 0,.int .i64 0,.int .i64 0,.string ⟨#[]⟩,.int .i64 0,.int .i64 0,.int .i64 0,.int .i64 0,.int .i64 0,.string ⟨#[]⟩,.slice none 0 0,.bool false,.int .i64 0,.int .i64 0,.int .i64 0] 59);refine⟨?_,Jab hb _⟩;rw [Jaa hb,Array.getElem?_eq_getElem (by show 0+j<19;omega)];rfl
 ·rw [show r.cs.toArray.toList=r.cs from rfl,Jdr]
  exact h

def Two (w:World) (g:Nat) (x y:Rc):Prop:=∃cur,w.heap[g]?=some (.cells cur 59 (0,0))∧38≤cur.size∧cur.toList.take 38=x.cs++y.cs
theorem Two.at_ {w:World} {g:Nat} {x y:Rc} (h:Two w g x y):w.rangeAt g 0 x.cs∧w.rangeAt g 19 y.cs:=by
 obtain⟨cur,h1,h2,h3⟩:=h;have e:∀j v,(x.cs++y.cs)[j]?=some v→cur[j]?=some v:=fun j v hv=>by
  rw [←h3,List.getElem?_take] at hv;split at hv
  ·rw [←Array.getElem?_toList];exact hv
  ·cases hv
 refine⟨fun j v hv=>?_,fun j v hv=>?_⟩
 ·rw [Jaa h1,Nat.zero_add]
  exact e j v (by rw [List.getElem?_append_left (List.getElem?_eq_some_iff.1 hv).1];exact hv)
 ·rw [Jaa h1]
  refine e _ v ?_;rw [List.getElem?_append_right (by rw [x.len];omega),x.len,show 19+j - 19=j by omega];exact hv
theorem Jms {w:World} {g o:Nat} {x:Rc} (h:w.rangeAt g o x.cs):(Instr.loadAt 59 (.pointer (some ⟨g,o,none⟩))).run prog w= .ok (.agg #[.int .i64 x.cl,.int .i64 x.ix,.int .i64 x.k,.string x.p,.int .i64 x.o,.int .i64 x.n,.int .i64 x.i,.string x.g,.int .i64 x.e,.int .i64 x.rk,.int .i64 x.z,.int .i64 x.wh,.int .i64 x.id,.string x.x,.slice x.A x.N.length x.c,.bool x.fin,.int .i64 x.ca,.int .i64 x.ma,.int .i64 x.re]) w:=
 run_loadAt_mid w g o 59 x.cs _ h underlying59 rfl (by kernel_rfl)
theorem Two.load {w:World} {g:Nat} {x y:Rc} (h:Two w g x y):(Instr.loadAt 59 (.pointer (some ⟨g,19,none⟩))).run prog w= .ok (.agg #[.int .i64 y.cl,.int .i64 y.ix,.int .i64 y.k,.string y.p,.int .i64 y.o,.int .i64 y.n,.int .i64 y.i,.string y.g,.int .i64 y.e,.int .i64 y.rk,.int .i64 y.z,.int .i64 y.wh,.int .i64 y.id,.string y.x,.slice y.A y.N.length y.c,.bool y.fin,.int .i64 y.ca,.int .i64 y.ma,.int .i64 y.re]) w∧(Instr.loadAt 59 (.pointer (some ⟨g,0,none⟩))).run prog w= .ok (.agg #[.int .i64 x.cl,.int .i64 x.ix,.int .i64 x.k,.string x.p,.int .i64 x.o,.int .i64 x.n,.int .i64 x.i,.string x.g,.int .i64 x.e,.int .i64 x.rk,.int .i64 x.z,.int .i64 x.wh,.int .i64 x.id,.string x.x,.slice x.A x.N.length x.c,.bool x.fin,.int .i64 x.ca,.int .i64 x.ma,.int .i64 x.re]) w:=⟨Jms h.at_.2,Jms h.at_.1⟩
theorem Two.block {w w':World} {g:Nat} {x y:Rc} (h:Two w g x y) (e:w'.heap[g]?=w.heap[g]?):Two w' g x y:=by
 obtain⟨cur,h1,h2,h3⟩:=h;exact⟨cur,e.trans h1,h2,h3⟩
theorem Two.lt {w:World} {g:Nat} {x y:Rc} (h:Two w g x y):g<w.heap.size:=by
 obtain⟨cur,h1,h2,h3⟩:=h;exact lt_of_some h1
theorem Two.later {w w':World} {g:Nat} {x y:Rc} (h:Two w g x y) (hb:Below w.heap.size w w'):Two w' g x y:=h.block (hb.block _ h.lt)
theorem Two.there {w:World} {g:Nat} {x y:Rc} (h:Two w g x y):w.there g 0 19∧w.there g 19 19:=by
 obtain⟨cur,h1,h2,h3⟩:=h;refine⟨fun j hj=>⟨?_,Jab h1 _⟩,fun j hj=>⟨?_,Jab h1 _⟩⟩
 ·rw [Jaa h1,Array.getElem?_eq_getElem (by omega)];rfl
 ·rw [Jaa h1,Array.getElem?_eq_getElem (by omega)];rfl
theorem heap_setCells {T:TypeId} {f:Nat×Nat}:∀(vs:List Value) (o:Nat) (w:World) (g:Nat) (cur:Array Value),w.heap[g]?=some (.cells cur T f)→o+vs.length≤cur.size→
  ∃cur',(w.setCells g o vs).heap[g]?=some (.cells cur' T f)∧cur'.toList=cur.toList.take o++vs++cur.toList.drop (o+vs.length)
 |[],o,w,g,cur,h,_=>⟨cur,h,by simp⟩
 |v::r,o,w,g,cur,h,hl=>by
  rw [List.length_cons] at hl;have h1:(w.setCell ⟨g,o,none⟩ v).heap[g]?=some (.cells (cur.set o v (by omega)) T f):=by
   have hlt:=lt_of_some h;simp [World.setCell,Array.getElem?_modify,h,Array.setIfInBounds,show o<cur.size by omega]
  obtain⟨cur',h2,h3⟩:=heap_setCells r (o+1) (w.setCell ⟨g,o,none⟩ v) g _ h1 (by simp;omega);refine⟨cur',by rw [World.setCells];exact h2,?_⟩;rw [h3,Array.toList_set,List.length_cons,show o+1+r.length=o+(r.length+1) by omega];rw [List.take_set,List.drop_set_of_lt (by omega)];have ho:o<cur.toList.length:=by rw [Array.length_toList];omega
  rw [List.take_succ_eq_append_getElem ho,List.set_append_right _ _ (by rw [List.length_take];omega),List.length_take,show o - min o cur.toList.length=0 by omega];simp
theorem tn_setCells {S:Nat→Prop} {a:World} {g:Nat} (hg:S g):∀(vs:List Value) (o:Nat) (w:World),lru.Tn S a w→lru.Tn S a (w.setCells g o vs)
 |[],_,_,h=>h
 |v::r,o,w,h=>by
  rw [World.setCells];exact tn_setCells hg r (o+1) _ (h.setCell (p:=⟨g,o,none⟩) (.inr hg) v)
theorem do_close {B s t m:Nat} {A:Option Addr} {c:Nat} {L:List (Nat×Int)} {ad ep r n:Int} {C:cur.Cs} {w:World} (p:ByteArray) (o N id:Int) (img:ByteArray) (h:Sp B s t m A c L ad ep r n C w) (hbad:badB 7 o N=false) (hx:mpi.Fits id) (hno:cur.valC C id=none):
  Calls prog 158 #[.pointer (some ⟨s,0,none⟩),opV 7 p o N id img] w fun e w'=>e= .returned (resP 9 0 none 0 0 false)∧Below w.heap.size w w':=by
 obtain⟨g1,W1,hW1,eg1,hxo,hxr,hb1,lg1⟩:=Jgs w (.cells #[.int .i64 7,.string p,.int .i64 o,.int .i64 N,.int .i64 id,.string img] 55) (.cells #[.int .i64 0,.int .i64 0,.int .i64 0,.int .i64 0,.int .i64 0,.string ⟨#[]⟩,.slice none 0 0,.bool false] 57);have HO:=hid hxo;have HR:=hid (show W1.heap[g1]?=some zx8 from hxr);have HP1:=hid (h.later hb1);have HB1:=hid hb1;have HG1:=hid (show w.heap.size<g1 by omega);have HLt:=hid h.lt;have HW1:=hid hW1;have HEG:=hid eg1;have HCk:=hid (show Calls prog 156 #[.agg #[.int .i64 7,.string p,.int .i64 o,.int .i64 N,.int .i64 id,.string img]] W1 fun e w''=>e= .returned (.int .i64 0)∧Below W1.heap.size W1 w'' from (chk_any 7 p o N id img W1).mono fun e w'' ⟨h1,h2⟩=>⟨by rw [h1];unfold chkI;rw [hbad];rfl,h2⟩);have HCl:Hid (∀w',Sp B s t m A c L ad ep r n C w'→Calls prog 190 #[.pointer (some ⟨t,0,none⟩),.int .i64 id] w' (cur.GoneC w' 9)):=hid fun w' h'=>cur.close_no (h:=h'.tb) (hx:=hx) (hno:=hno);clear hW1 eg1 hxo hxr hb1 lg1 h hbad;unfold opV;have c0:=Jaa HO.out 0;have c1:=Jaa HO.out 1;have c2:=Jaa HO.out 2;have c3:=Jaa HO.out 3;have c4:=Jaa HO.out 4;have c5:=Jaa HO.out 5;go_enter func158,ntmps158
 go_upto_region 1 with fail
 rw [HW1.out];simp only [HEG.out];clear HW1 HEG;go_wp2_with fail
 refine HCk.out.mono ?_;rintro e w3 ⟨rfl,hb3⟩;have HBc:=hid (HB1.out.trans (hb3.mono HB1.out.size));have HXr:=hid ((hb3.block _ (lt_of_some HR.out)).trans HR.out);have eo:=(hb3.block _ (lt_of_some HO.out)).trans HO.out;have HPc:=hid (HP1.out.later hb3);have HEo:=hid eo;have HCE:Hid (∀w':World,(Sp B s t m A c L ad ep r n C w'∧Below w3.heap.size w3 w')→w'.cell? ⟨s,3,none⟩=some (.pointer (some ⟨t,0,none⟩))∧w'.cell? ⟨w.heap.size,4,none⟩=some (.int .i64 id)∧True):=hid fun w' ⟨h1,h2⟩=>⟨Jaa h1.blk 3,Jaa ((h2.block _ (lt_of_some HEo.out)).trans HEo.out) 4,trivial⟩
 clear c0 c1 c2 c3 c4 c5;have c0:=Jaa eo 0;clear hb3 eo HCk;go_upto_region 10 with fail
 refine held.wpT_start (S:=(fun w'=>Sp B s t m A c L ad ep r n C w'∧Below w3.heap.size w3 w')) (T:=fun k=>k==8) (by kernel_rfl) ?_;refine held.wpT_take (i:=0) (oi:=⟨some 27,_,_,_,_,_⟩) (v:=?_) rfl (by kernel_rfl) (by kernel_rfl) (by kernel_rfl) (fun _ _ _ h=>h) (Or.inl ⟨by kernel_rfl,?_⟩) ?_
 rotate_left 1
 ·intro _ _;go_simp;(try with_reducible rfl)
 try simp only [words.pt]
 refine held.wpT_take (i:=1) (oi:=⟨some 28,_,_,_,_,_⟩) (v:=?_) rfl (by kernel_rfl) (by kernel_rfl) (by kernel_rfl) (fun _ _ _ h=>h) (Or.inl ⟨by kernel_rfl,?_⟩) ?_
 rotate_left 1
 ·intro _ _;go_simp;(try with_reducible rfl)
 try simp only [words.pt]
 refine held.wpT_take (i:=2) (oi:=⟨some 29,_,_,_,_,_⟩) (v:=?_) rfl (by kernel_rfl) (by kernel_rfl) (by kernel_rfl) (fun _ _ _ h=>h) (Or.inl ⟨by kernel_rfl,?_⟩) ?_
 rotate_left 1
 ·intro _ _;go_simp;(try with_reducible rfl)
 try simp only [words.pt]
 refine held.wpT_load (i:=3) (oi:=⟨some 30,_,_,_,_,_⟩) (v:=?_) rfl (by kernel_rfl) (by kernel_rfl) (by kernel_rfl) (fun _ _ _ h=>h) (by kernel_rfl) (Or.inl ⟨by kernel_rfl,?_⟩) (⟨HPc.out.later (Below.refl _ _).drew,(Below.refl _ _).drew⟩) ?_
 rotate_left 1
 focus (intro w' hSw;obtain⟨q0,q1,q2⟩:=HCE.out w' hSw;clear hSw;go_simp;(try with_reducible rfl))
 try simp only [words.pt]
 refine held.wpT_take (i:=4) (oi:=⟨some 31,_,_,_,_,_⟩) (v:=?_) rfl (by kernel_rfl) (by kernel_rfl) (by kernel_rfl) (fun _ _ _ h=>h) (Or.inl ⟨by kernel_rfl,?_⟩) ?_
 rotate_left 1
 ·intro _ _;go_simp;(try with_reducible rfl)
 try simp only [words.pt]
 refine held.wpT_load (i:=5) (oi:=⟨some 32,_,_,_,_,_⟩) (v:=?_) rfl (by kernel_rfl) (by kernel_rfl) (by kernel_rfl) (fun _ _ _ h=>h) (by kernel_rfl) (Or.inl ⟨by kernel_rfl,?_⟩) (⟨HPc.out.later (Below.refl _ _).drew,(Below.refl _ _).drew⟩) ?_
 rotate_left 1
 focus (intro w' hSw;obtain⟨q0,q1,q2⟩:=HCE.out w' hSw;clear hSw;go_simp;(try with_reducible rfl))
 try simp only [words.pt]
 refine held.wpT_one (i:=6) (by kernel_rfl) rfl (fun Kc hK=>?_);go_simp
 go_at_call 190
 refine (HCl.out w3.drew (HPc.out.later (Below.refl _ _).drew)).mono ?_;rintro en v1 ⟨rfl,hv1⟩;refine hK.out _ _ (fun _ _=>⟨(HPc.out.later (Below.refl _ _).drew).later hv1,(Below.refl w3.heap.size w3).drew.trans (hv1.mono (Below.refl w3.heap.size w3).drew.size)⟩) ?_;clear hK;try simp only [words.pt]
 refine held.wpT_take (i:=7) (oi:=⟨some 34,_,_,_,_,_⟩) (v:=?_) rfl (by kernel_rfl) (by kernel_rfl) (by kernel_rfl) (fun _ _ _ h=>h) (Or.inl ⟨by kernel_rfl,?_⟩) ?_
 rotate_left 1
 ·intro _ _;go_simp;(try with_reducible rfl)
 try simp only [words.pt]
 have hbv:Below w3.heap.size w3 v1:=(Below.refl w3.heap.size w3).drew.trans (hv1.mono (Below.refl w3.heap.size w3).drew.size);have er:=(hbv.block _ (lt_of_some HXr.out)).trans HXr.out;have HPut:=hid (put8 (rb:=g1) (Nat.le_of_lt HG1.out) er (HBc.out.trans (hbv.mono HBc.out.size)) 9 0 0 0 ⟨#[]⟩);have y0:=Jaa er 0;have z0:=Jab er 0;have y1:=Jaa er 1;have z1:=Jab er 1;have y2:=Jaa er 2;have z2:=Jab er 2;have y3:=Jaa er 3;have z3:=Jab er 3;have y4:=Jaa er 4;have z4:=Jab er 4;have y5:=Jaa er 5;have z5:=Jab er 5;have y6:=Jaa er 6;have z6:=Jab er 6;have y7:=Jaa er 7;have z7:=Jab er 7;clear er;obtain⟨W9,hW9⟩:=words.nm (set8 v1 g1 (.int .i64 9) (.int .i64 0) (.int .i64 0) (.int .i64 0) (.int .i64 0) (.string ⟨#[]⟩) (.slice none 0 0) (.bool false));obtain⟨p0,p1,p2,p3,p4,p5,p6,p7,HE⟩:=HPut.out _ hW9;have HE:=hid HE;unfold set8 at hW9;have HW9:=hid hW9;clear hW9 HPut;refine held.wpT_one (i:=8) (by kernel_rfl) rfl (fun Kc hK=>?_);go_simp
 rw [←HW9.out];refine hK.out _ _ (fun h=>absurd h (by decide)) ?_;clear hK HW9 y0 z0 y1 z1 y2 z2 y3 z3 y4 z4 y5 z5 y6 z6 y7 z7;try simp only [words.pt]
 refine held.wpT_done (by kernel_rfl) ?_ _;go_wp2_with fail
 exact bodyPost_ret (v:=resP 9 0 none 0 0 false) (by unfold resP;simp [results,results158,go_sem,p0,p1,p2,p3,p4,p5,p6,p7]) rfl ⟨rfl,HE.out⟩
theorem over2 {w:World} {g:Nat} {T:TypeId} {c0 c1 u0 u1:Value} (h:w.heap[g]?=some (.cells #[c0,c1] T (0,0))):((w.setCell ⟨g,0,none⟩ u0).setCell ⟨g,1,none⟩ u1).heap[g]?=some (.cells #[u0,u1] T (0,0)):=by
 simp [World.setCell,Array.getElem?_modify,h]
end Go.Proofs.YtekekhgjobahaaaGreatDoor.tal
