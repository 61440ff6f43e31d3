import Derived.Test.YtcoimjbhoiipoaaGreatDoorG6
import Derived.Lib.Join
set_option maxHeartbeats 3200000
set_option maxRecDepth 100000
open Go.Lib (hid)
open Go.Proofs.Tryz
namespace Go.Proofs.YtcoimjbhoiipoaaGreatDoor.cal
open Go.RowKit words

def set6 (w:World) (b:Nat) (u0 u1 u2 u3 u4 u5:Value):World:=(((((w.setCell ⟨b,0,none⟩ u0).setCell ⟨b,1,none⟩ u1).setCell ⟨b,2,none⟩ u2).setCell ⟨b,3,none⟩ u3).setCell ⟨b,4,none⟩ u4).setCell ⟨b,5,none⟩ u5
theorem over6 {w:World} {g:Nat} {T:TypeId} {c0 c1 c2 c3 c4 c5 u0 u1 u2 u3 u4 u5:Value} (h:w.heap[g]?=some (.cells #[c0,c1,c2,c3,c4,c5] T (0,0))):(set6 w g u0 u1 u2 u3 u4 u5).heap[g]?=some (.cells #[u0,u1,u2,u3,u4,u5] T (0,0)):=by
 simp [set6,World.setCell,Array.getElem?_modify,h]
theorem below6 {B g:Nat} {a b:World} (h:Below B a b) (hg:B≤g) (u0 u1 u2 u3 u4 u5:Value):Below B a (set6 b g u0 u1 u2 u3 u4 u5):=
 (((((h.setCell (p:=⟨g,0,none⟩) hg u0).setCell (p:=⟨g,1,none⟩) hg u1).setCell (p:=⟨g,2,none⟩) hg u2).setCell (p:=⟨g,3,none⟩) hg u3).setCell (p:=⟨g,4,none⟩) hg u4).setCell (p:=⟨g,5,none⟩) hg u5
def opB (k:Int) (p:ByteArray) (o n i:Int) (g:ByteArray):Obj:= .cells #[.int .i64 k,.string p,.int .i64 o,.int .i64 n,.int .i64 i,.string g] 51 (0,0)
def ToldOut (k:Int) (p:ByteArray) (o n i:Int) (g:ByteArray) (w:World) (e:Ending) (w':World):Prop:=
 (∃p' o' n' i' g',e= .returned (opV k p' o' n' i' g')∧opM k p' o' n' i' g'=toldM (opM k p o n i g))∧Below w.heap.size w w'
theorem Jqe {w W1:World} {b:Nat} {k:Int} {p:ByteArray} {o n i:Int} {g:ByteArray} (hb:Below w.heap.size w W1) (hbb:w.heap.size≤b) (hr:W1.heap[b]?=some (opB 0 ⟨#[]⟩ 0 0 0 ⟨#[]⟩)) (p':ByteArray) (o' n' i':Int) (g':ByteArray) (hm:opM k p' o' n' i' g'=toldM (opM k p o n i g)):
  ∀W,W=set6 W1 b (.int .i64 k) (.string p') (.int .i64 o') (.int .i64 n') (.int .i64 i') (.string g')→W.cell? ⟨b,0,none⟩=some (.int .i64 k)∧W.cell? ⟨b,1,none⟩=some (.string p')∧W.cell? ⟨b,2,none⟩=some (.int .i64 o')∧W.cell? ⟨b,3,none⟩=some (.int .i64 n')∧W.cell? ⟨b,4,none⟩=some (.int .i64 i')∧W.cell? ⟨b,5,none⟩=some (.string g')∧
   ToldOut k p o n i g w (.returned (.agg #[.int .i64 k,.string p',.int .i64 o',.int .i64 n',.int .i64 i',.string g'])) W:=fun W hW=>by
 have ho:=over6 (u0:= .int .i64 k) (u1:= .string p') (u2:= .int .i64 o') (u3:= .int .i64 n') (u4:= .int .i64 i') (u5:= .string g') hr;have hbd:=below6 hb hbb (.int .i64 k) (.string p') (.int .i64 o') (.int .i64 n') (.int .i64 i') (.string g');rw [←hW] at ho hbd;exact⟨Jaa ho 0,Jaa ho 1,Jaa ho 2,Jaa ho 3,Jaa ho 4,Jaa ho 5,⟨p',o',n',i',g',rfl,hm⟩,hbd⟩
theorem Jph (k:Int) (p:ByteArray) (o n i:Int) (g:ByteArray) (w:World):Calls prog 98 #[opV k p o n i g] w (ToldOut k p o n i g w):=by
 obtain⟨W0,hW0⟩:=words.nm (w.alloc (.cells #[.int .i64 k,.string p,.int .i64 o,.int .i64 n,.int .i64 i,.string g] 51));obtain⟨W1,hW1⟩:=words.nm (W0.alloc (.cells #[.int .i64 0,.string ⟨#[]⟩,.int .i64 0,.int .i64 0,.int .i64 0,.string ⟨#[]⟩] 51));obtain⟨b,hb⟩:=words.nm (w.heap.size+1);have hz0:W0.heap.size=b:=by rw [hW0,hb];exact World.size_alloc w _
 have hb0:=words.b1 hW0;have hb01:Below W0.heap.size W0 W1:=words.b1 hW1;have hx0:W0.heap[w.heap.size]?=some (opB k p o n i g):=by rw [hW0];exact heap_alloc_new w _
 have hx:W1.heap[w.heap.size]?=some (opB k p o n i g):=(hb01.block _ (lt_of_some hx0)).trans hx0;have hr:W1.heap[b]?=some (opB 0 ⟨#[]⟩ 0 0 0 ⟨#[]⟩):=by rw [hW1,←hz0];exact heap_alloc_new W0 _
 have hb1:Below w.heap.size w W1:=hb0.trans (hb01.mono hb0.size);have HPut:=hid (fun p' o' n' i' g' (hm:opM k p' o' n' i' g'=toldM (opM k p o n i g))=>Jqe hb1 (by omega:w.heap.size≤b) hr p' o' n' i' g' hm);unfold opB at hx hr;have c0:W1.cell? ⟨w.heap.size,0,none⟩=some (.int .i64 k):=Jaa hx 0;have c1:W1.cell? ⟨w.heap.size,1,none⟩=some (.string p):=Jaa hx 1;have c2:W1.cell? ⟨w.heap.size,2,none⟩=some (.int .i64 o):=Jaa hx 2;have c3:W1.cell? ⟨w.heap.size,3,none⟩=some (.int .i64 n):=Jaa hx 3;have c4:W1.cell? ⟨w.heap.size,4,none⟩=some (.int .i64 i):=Jaa hx 4;have c5:W1.cell? ⟨w.heap.size,5,none⟩=some (.string g):=Jaa hx 5;have d0:W1.cell? ⟨b,0,none⟩=some (.int .i64 0):=Jaa hr 0;have d1:W1.cell? ⟨b,1,none⟩=some (.string ⟨#[]⟩):=Jaa hr 1;have d2:W1.cell? ⟨b,2,none⟩=some (.int .i64 0):=Jaa hr 2;have d3:W1.cell? ⟨b,3,none⟩=some (.int .i64 0):=Jaa hr 3;have d4:W1.cell? ⟨b,4,none⟩=some (.int .i64 0):=Jaa hr 4;have d5:W1.cell? ⟨b,5,none⟩=some (.string ⟨#[]⟩):=Jaa hr 5;have z0:=Jab hr 0;have z1:=Jab hr 1;have z2:=Jab hr 2;have z3:=Jab hr 3;have z4:=Jab hr 4;have z5:=Jab hr 5;have HW:Hid ((w.alloc (.cells #[.int .i64 k,.string p,.int .i64 o,.int .i64 n,.int .i64 i,.string g] 51)).alloc (.cells #[.int .i64 0,.string ⟨#[]⟩,.int .i64 0,.int .i64 0,.int .i64 0,.string ⟨#[]⟩] 51)=W1):=hid (by rw [hW1,hW0]);have HB:=hid hb.symm;clear hW0 hW1 hb hz0 hb0 hb01 hx0 hx hr hb1;unfold opV;go_enter func98,ntmps98
 go_upto_region 1 with fail
 rw [HW.out];simp only [HB.out];clear HW HB;by_cases h4:k=4
 ·subst h4
  have HP:=hid (HPut.out p o n 0 ⟨#[]⟩ (rfl));clear HPut;go_wp2_with fail
  obtain⟨p0,p1,p2,p3,p4,p5,HE⟩:=HP.out _ rfl;unfold set6 at p0 p1 p2 p3 p4 p5 HE;exact bodyPost_ret (v:= .agg #[.int .i64 4,.string p,.int .i64 o,.int .i64 n,.int .i64 0,.string ⟨#[]⟩]) (by simp [results,results98,go_sem,p0,p1,p2,p3,p4,p5]) rfl HE
 by_cases h6:k=6
 ·subst h6
  have HP:=hid (HPut.out ⟨#[]⟩ 0 n i ⟨#[]⟩ (rfl));clear HPut;go_wp2_with fail
  obtain⟨p0,p1,p2,p3,p4,p5,HE⟩:=HP.out _ rfl;unfold set6 at p0 p1 p2 p3 p4 p5 HE;exact bodyPost_ret (v:= .agg #[.int .i64 6,.string ⟨#[]⟩,.int .i64 0,.int .i64 n,.int .i64 i,.string ⟨#[]⟩]) (by simp [results,results98,go_sem,p0,p1,p2,p3,p4,p5]) rfl HE
 by_cases h7:k=7
 ·subst h7
  have HP:=hid (HPut.out ⟨#[]⟩ 0 0 i ⟨#[]⟩ (rfl));clear HPut;go_wp2_with fail
  obtain⟨p0,p1,p2,p3,p4,p5,HE⟩:=HP.out _ rfl;unfold set6 at p0 p1 p2 p3 p4 p5 HE;exact bodyPost_ret (v:= .agg #[.int .i64 7,.string ⟨#[]⟩,.int .i64 0,.int .i64 0,.int .i64 i,.string ⟨#[]⟩]) (by simp [results,results98,go_sem,p0,p1,p2,p3,p4,p5]) rfl HE
 by_cases h9:k=9
 ·subst h9
  have HP:=hid (HPut.out ⟨#[]⟩ 0 0 i ⟨#[]⟩ (rfl));clear HPut;go_wp2_with fail
  obtain⟨p0,p1,p2,p3,p4,p5,HE⟩:=HP.out _ rfl;unfold set6 at p0 p1 p2 p3 p4 p5 HE;exact bodyPost_ret (v:= .agg #[.int .i64 9,.string ⟨#[]⟩,.int .i64 0,.int .i64 0,.int .i64 i,.string ⟨#[]⟩]) (by simp [results,results98,go_sem,p0,p1,p2,p3,p4,p5]) rfl HE
 by_cases h8:k=8
 ·subst h8
  have HP:=hid (HPut.out ⟨#[]⟩ 0 0 0 g (rfl));clear HPut;go_wp2_with fail
  obtain⟨p0,p1,p2,p3,p4,p5,HE⟩:=HP.out _ rfl;unfold set6 at p0 p1 p2 p3 p4 p5 HE;exact bodyPost_ret (v:= .agg #[.int .i64 8,.string ⟨#[]⟩,.int .i64 0,.int .i64 0,.int .i64 0,.string g]) (by simp [results,results98,go_sem,p0,p1,p2,p3,p4,p5]) rfl HE
 have g4:(k==4)=false:=by rw [beq_eq_false_iff_ne];exact h4
 have g6:(k==6)=false:=by rw [beq_eq_false_iff_ne];exact h6
 have g7:(k==7)=false:=by rw [beq_eq_false_iff_ne];exact h7
 have g9:(k==9)=false:=by rw [beq_eq_false_iff_ne];exact h9
 have g8:(k==8)=false:=by rw [beq_eq_false_iff_ne];exact h8
 have HM:Hid (opM k p 0 0 0 ⟨#[]⟩=toldM (opM k p o n i g)):=hid (by unfold toldM opM;rw [if_neg h4,if_neg h6,if_neg (fun h=>h.elim h7 h9),if_neg h8]);clear h4 h6 h7 h9 h8;have HP:=hid (HPut.out p 0 0 0 ⟨#[]⟩ (HM.out));clear HPut;go_wp2_with fail
 obtain⟨p0,p1,p2,p3,p4,p5,HE⟩:=HP.out _ rfl;unfold set6 at p0 p1 p2 p3 p4 p5 HE;exact bodyPost_ret (v:= .agg #[.int .i64 k,.string p,.int .i64 0,.int .i64 0,.int .i64 0,.string ⟨#[]⟩]) (by simp [results,results98,go_sem,p0,p1,p2,p3,p4,p5]) rfl HE

theorem info9:(Tryz.prog.info? 9).map (fun i=>(i.zero,i.size,i.bytes))=some (some (.string ⟨#[]⟩),1,16):=by kernel_rfl
theorem add_place (b off j:Nat):(⟨b,off,none⟩:Addr).add j=⟨b,off+j,none⟩:=by unfold Addr.add;split<;>simp_all

structure OpFit (o n i:Int) (p g:ByteArray):Prop where
 o:I64 o
 n:I64 n
 i:I64 i
 p:p.size≤1000000
 g:g.size≤1000000
theorem OpFit.fit {k o n i:Int} {p g:ByteArray} (h:OpFit o n i p g):(opM k p o n i g).fit:=⟨h.o,h.n,h.i⟩
end Go.Proofs.YtcoimjbhoiipoaaGreatDoor.cal
