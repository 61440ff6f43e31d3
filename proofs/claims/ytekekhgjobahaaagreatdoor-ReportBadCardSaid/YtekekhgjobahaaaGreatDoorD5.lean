import Derived.Test.YtekekhgjobahaaaGreatDoorD1
set_option maxHeartbeats 6400000
set_option maxRecDepth 100000
open Go.Lib (hid)
open Go.Proofs.Tryz
namespace Go.Proofs.YtekekhgjobahaaaGreatDoor.cal
open Go.RowKit words

theorem Jdl (m:Int) (s:ByteArray) (w:World) (hs:s.size≤1000000) (hE:Env m w):
  Calls prog 19 #[.string s,.string ⟨#[32]⟩] w fun e w'=>(∃(a b:ByteArray) (f:Bool),e= .returned (.tuple #[.string a,.string b,.bool f])∧cutL s.data.toList=(a.data.toList,b.data.toList,f))∧Below w.heap.size w w':=by
 refine (Tryz.strings_Cut s ⟨#[32]⟩ m w (by omega) hE.max).mono ?_;rintro e w' ⟨rfl,n,rfl⟩;exact⟨⟨_,_,_,rfl,by rw [Ja9,Ja9];rfl⟩,⟨rfl,rfl,rfl,Nat.le_refl _,fun _ _=>rfl⟩⟩
theorem Jem {s a b:ByteArray} {f:Bool} (h:cutL s.data.toList=(a.data.toList,b.data.toList,f)):a.size≤s.size∧b.size≤s.size:=by
 rw [←size_list,←size_list,←size_list];cases f with
 |true=>
  have h1:=Jpz h;rw [h1];simp;omega
 |false=>
  obtain⟨h1,h2⟩:=Jrp h;rw [h1,h2];simp
def NumsOut (a b:List UInt8) (e:Ending):Prop:=(∃x:Int×Int,numsM a b=some x∧e= .returned (.tuple #[.int .i64 x.1,.int .i64 x.2,.bool true]))∨(numsM a b=none∧∃x y:Int,e= .returned (.tuple #[.int .i64 x,.int .i64 y,.bool false]))
theorem Jbp (m:Int) (v u:ByteArray) (w:World) (hv:v.size≤1000000) (hu:u.size≤1000000) (hE:Env m w):
  Calls prog 141 #[.string v,.string u] w fun e w'=>NumsOut v.data.toList u.data.toList e∧Below w.heap.size w w':=by
 have HC:=hid (Jak m v w (by omega) hE);have HE:=hid hE;clear hE;go_enter func141,ntmps141
 go_wp2_with fail
 refine HC.out.mono ?_;rintro e w2 ⟨ho,hb2⟩;have HC2:=hid (Jak m u w2 (by omega) (HE.out.later hb2));have HB2:=hid hb2;clear hb2 HC;rcases ho with⟨h1,rfl⟩ |⟨x,h1,rfl⟩
 ·have HO:Hid (∀y:Int,NumsOut v.data.toList u.data.toList (.returned (.tuple #[.int .i64 0,.int .i64 y,.bool false]))):=hid fun y=> .inr ⟨by unfold numsM;rw [h1],_,_,rfl⟩
  clear h1;go_wp2_with fail
  refine HC2.out.mono ?_;rintro e w3 ⟨ho,hb3⟩;have HF:=hid (HB2.out.trans (hb3.mono HB2.out.size));clear hb3 HC2;rcases ho with⟨_,rfl⟩ |⟨y,_,rfl⟩
  ·go_wp2_with fail
   go_ret3
   exact⟨HO.out 0,HF.out⟩
  ·go_wp2_with fail
   go_ret3
   exact⟨HO.out y,HF.out⟩
 ·go_wp2_with fail
  refine HC2.out.mono ?_;rintro e w3 ⟨ho,hb3⟩;have HF:=hid (HB2.out.trans (hb3.mono HB2.out.size));clear hb3 HC2;rcases ho with⟨h2,rfl⟩ |⟨y,h2,rfl⟩
  ·have HO:Hid (NumsOut v.data.toList u.data.toList (.returned (.tuple #[.int .i64 x,.int .i64 0,.bool false]))):=hid (.inr ⟨by unfold numsM;rw [h1,h2],_,_,rfl⟩)
   clear h1 h2;go_wp2_with fail
   go_ret3
   exact⟨HO.out,HF.out⟩
  ·have HO:Hid (NumsOut v.data.toList u.data.toList (.returned (.tuple #[.int .i64 x,.int .i64 y,.bool true]))):=hid (.inl ⟨(x,y),by unfold numsM;rw [h1,h2],rfl⟩)
   clear h1 h2;go_wp2_with fail
   go_ret3
   exact⟨HO.out,HF.out⟩
def atM (s:List UInt8):Option (Int×Int×List UInt8):=if (cutL (cutL s).2.1).2.2 then (numsM (cutL s).1 (cutL (cutL s).2.1).1).map fun x=>(x.1,x.2,(cutL (cutL s).2.1).2.1) else none
def AtO (s:ByteArray) (e:Ending):Prop:=∃(x y:Int) (p:ByteArray),p.size≤s.size∧((atM s.data.toList=some (x,y,p.data.toList)∧e= .returned (.tuple #[.int .i64 x,.int .i64 y,.string p,.bool true]))∨(atM s.data.toList=none∧e= .returned (.tuple #[.int .i64 x,.int .i64 y,.string p,.bool false])))
theorem Job (m:Int) (s:ByteArray) (w:World) (hs:s.size≤1000000) (hE:Env m w):
  Calls prog 140 #[.string s] w fun e w'=>AtO s e∧Below w.heap.size w w':=by
 have HC:=hid (Jdl m s w hs hE);have HE:=hid hE;clear hE;go_enter func140,ntmps140
 go_wp2_with fail
 refine HC.out.mono ?_;rintro e w2 ⟨⟨a,b,f1,rfl,hc1⟩,hb2⟩;have hz1:=Jem hc1;have HC2:=hid (Jdl m b w2 (by omega) (HE.out.later hb2));have HB2:=hid hb2;have HC1:=hid hc1;have HZ1:=hid hz1;clear hb2 HC hc1 hz1;go_wp2_with fail
 refine HC2.out.mono ?_;rintro e w3 ⟨⟨c,d,f2,rfl,hc2⟩,hb3⟩;have hz2:=Jem hc2;have HB3:=hid (HB2.out.trans (hb3.mono HB2.out.size));have HC3:=hid (Jbp m a c w3 (by have:=HZ1.out;omega) (by have:=HZ1.out;omega) (HE.out.later HB3.out));have HAt:Hid (atM s.data.toList=if f2 then (numsM a.data.toList c.data.toList).map fun x=>(x.1,x.2,d.data.toList) else none):=hid (by
   unfold atM;rw [HC1.out];simp only;rw [hc2])
 have HZ2:Hid (d.size≤s.size):=hid (by have:=HZ1.out;omega);clear hb3 HC2 hc2 hz2;go_wp2_with fail
 refine HC3.out.mono ?_;rintro e w4 ⟨ho,hb4⟩;have HF:=hid (HB3.out.trans (hb4.mono HB3.out.size));clear hb4 HC3;rcases ho with⟨⟨x,y⟩,h1,rfl⟩ |⟨h1,x,y,rfl⟩
 ·cases f2 with
  |true=>
   have HO:Hid (AtO s (.returned (.tuple #[.int .i64 x,.int .i64 y,.string d,.bool true]))):=hid ⟨x,y,d,HZ2.out,.inl ⟨by rw [HAt.out,h1];rfl,rfl⟩⟩;clear h1;go_wp2_with fail
   exact bodyPost_ret (v:= .tuple #[.int .i64 x,.int .i64 y,.string d,.bool true]) (by simp [results,results140,go_sem]) rfl ⟨HO.out,HF.out⟩
  |false=>
   have HO:Hid (AtO s (.returned (.tuple #[.int .i64 x,.int .i64 y,.string d,.bool false]))):=hid ⟨x,y,d,HZ2.out,.inr ⟨by rw [HAt.out];rfl,rfl⟩⟩;clear h1;go_wp2_with fail
   exact bodyPost_ret (v:= .tuple #[.int .i64 x,.int .i64 y,.string d,.bool false]) (by simp [results,results140,go_sem]) rfl ⟨HO.out,HF.out⟩
 ·have HO:Hid (AtO s (.returned (.tuple #[.int .i64 x,.int .i64 y,.string d,.bool false]))):=hid ⟨x,y,d,HZ2.out,.inr ⟨by rw [HAt.out,h1];cases f2<;>rfl,rfl⟩⟩
  clear h1;go_wp2_with fail
  exact bodyPost_ret (v:= .tuple #[.int .i64 x,.int .i64 y,.string d,.bool false]) (by simp [results,results140,go_sem]) rfl ⟨HO.out,HF.out⟩

def ReadO (k:Int) (s:ByteArray) (w:World) (e:Ending) (w':World):Prop:=
 (∃(p:ByteArray) (o n i:Int) (g:ByteArray) (f:Bool),e= .returned (.tuple #[opV k p o n i g,.bool f])∧((f=true∧readM k s.data.toList=some (opM k p o n i g)∧OpFit o n i p g)∨(f=false∧readM k s.data.toList=none)))∧Below w.heap.size w w'
theorem Jdk:I64 0:=by unfold I64;omega
theorem Jm6 {a b:List UInt8} {x y:Int} (h:numsM a b=some (x,y)):I64 x∧I64 y:=by
 unfold numsM at h;cases ha:numP a with
 |none=>rw [ha] at h;cases h
 |some u=>
  cases hb:numP b with
  |none=>rw [ha,hb] at h;cases h
  |some v=>
   rw [ha,hb] at h;injection h with h;injection h with h1 h2;subst h1;subst h2;exact⟨(Jcw ha).2,(Jcw hb).2⟩
theorem Jyf {s:List UInt8} {x y:Int} {p:List UInt8} (h:atM s=some (x,y,p)):I64 x∧I64 y:=by
 unfold atM at h;split at h
 ·obtain⟨⟨a,b⟩,ha,hb⟩:=Option.map_eq_some_iff.1 h
  injection hb with e1 e2;injection e2 with e2 e3;subst e1;subst e2;exact Jm6 ha
 ·cases h
theorem Ju9 {l r:List UInt8} (h:unH l=some r):r.length≤l.length:=by
 have h1:=Jt1 h;unfold hexL at h1;split at h1
 ·rename_i h2
  rw [h2];simp
 ·rw [←h1,Jc9]
  omega
theorem Jvv (s:List UInt8):readM 4 s=(atM s).map fun x=>⟨4,x.2.2,x.1,x.2.1,0,[]⟩:=by
 unfold readM atM;rw [if_pos rfl];split
 ·rw [Option.map_map];rfl
 ·rfl
theorem Jvn (s:List UInt8):readM 6 s=(numsM (cutL s).1 (cutL s).2.1).map fun x=>⟨6,[],0,x.2,x.1,[]⟩:=rfl
theorem Ja6 {w W1:World} {b:Nat} {k:Int} {s:ByteArray} (hb:Below w.heap.size w W1) (hbb:w.heap.size≤b) {u0 u1 u2 u3 u4 u5:Value} (hr:W1.heap[b]?=some (.cells #[u0,u1,u2,u3,u4,u5] 55 (0,0))) (p:ByteArray) (o n i:Int) (g:ByteArray) (f:Bool)
  (hm:(f=true∧readM k s.data.toList=some (opM k p o n i g)∧OpFit o n i p g)∨(f=false∧readM k s.data.toList=none)):
  ∀W,W=set6 W1 b (.int .i64 k) (.string p) (.int .i64 o) (.int .i64 n) (.int .i64 i) (.string g)→W.cell? ⟨b,0,none⟩=some (.int .i64 k)∧W.cell? ⟨b,1,none⟩=some (.string p)∧W.cell? ⟨b,2,none⟩=some (.int .i64 o)∧W.cell? ⟨b,3,none⟩=some (.int .i64 n)∧W.cell? ⟨b,4,none⟩=some (.int .i64 i)∧W.cell? ⟨b,5,none⟩=some (.string g)∧
   ReadO k s w (.returned (.tuple #[.agg #[.int .i64 k,.string p,.int .i64 o,.int .i64 n,.int .i64 i,.string g],.bool f])) W:=fun W hW=>by
 have ho:=over6 (u0:= .int .i64 k) (u1:= .string p) (u2:= .int .i64 o) (u3:= .int .i64 n) (u4:= .int .i64 i) (u5:= .string g) hr;have hbd:=below6 hb hbb (.int .i64 k) (.string p) (.int .i64 o) (.int .i64 n) (.int .i64 i) (.string g);rw [←hW] at ho hbd;exact⟨Jaa ho 0,Jaa ho 1,Jaa ho 2,Jaa ho 3,Jaa ho 4,Jaa ho 5,⟨p,o,n,i,g,f,rfl,hm⟩,hbd⟩
theorem blk6 {w:World} {b:Nat} {T:TypeId} {u0 u1 u2 u3 u4 u5:Value} (h:w.heap[b]?=some (.cells #[u0,u1,u2,u3,u4,u5] T (0,0))) (j:Nat) (v:Value):
  (w.setCell ⟨b,j,none⟩ v).heap[b]?=some (.cells (#[u0,u1,u2,u3,u4,u5].setIfInBounds j v) T (0,0)):=by
 simp [World.setCell,Array.getElem?_modify,h]
theorem Jfx (m:Int) (k:Int) (s:ByteArray) (w:World) (hs:s.size≤1000000) (hE:Env m w):Calls prog 110 #[.int .i64 k,.string s] w (ReadO k s w):=by
 obtain⟨W1,hW1⟩:=words.nm (w.alloc (.cells #[.int .i64 0,.string ⟨#[]⟩,.int .i64 0,.int .i64 0,.int .i64 0,.string ⟨#[]⟩] 55));have hb1:=words.b1 hW1;have hx1:W1.heap[w.heap.size]?=some (opB 0 ⟨#[]⟩ 0 0 0 ⟨#[]⟩):=by rw [hW1];exact heap_alloc_new w _
 unfold opB at hx1;obtain⟨W2,hW2⟩:=words.nm (W1.setCell ⟨w.heap.size,0,none⟩ (.int .i64 k));have hx2:W2.heap[w.heap.size]?=some (.cells #[.int .i64 k,.string ⟨#[]⟩,.int .i64 0,.int .i64 0,.int .i64 0,.string ⟨#[]⟩] 55 (0,0)):=by rw [hW2];exact blk6 hx1 0 _
 have hb2:Below w.heap.size w W2:=by rw [hW2];exact hb1.setCell (p:=⟨w.heap.size,0,none⟩) (Nat.le_refl _) _
 have HX2:=hid hx2;have HB2:=hid hb2;have HE2:=hid (hE.later hb2);have HW1:=hid hW1.symm;have HW2:=hid hW2.symm;have a0:=Jaa hx1 0;have y0:=Jab hx1 0;clear hW1 hb1 hx1 hW2 hx2 hb2 hE;go_enter func110,ntmps110
 go_upto_region 1 with fail
 rw [HW1.out];go_upto_region 2 with fail
 rw [HW2.out];clear HW1 HW2 a0 y0;by_cases h4:k=4
 ·subst h4
  have HC:=hid (Job m s W2 hs HE2.out);go_wp2_with fail
  refine HC.out.mono ?_;rintro e w3 ⟨⟨x,y,p,hp,ho⟩,hb3⟩;have hx3:=(hb3.block _ (lt_of_some HX2.out)).trans HX2.out;have hw3:=HB2.out.trans (hb3.mono HB2.out.size);rcases ho with⟨h1,rfl⟩ |⟨h1,rfl⟩
  ·have hfit:=Jyf h1
   have hs0:(w3.setCell ⟨w.heap.size,2,none⟩ (.int .i64 x)).heap[w.heap.size]?=some (.cells #[.int .i64 4,.string ⟨#[]⟩,.int .i64 x,.int .i64 0,.int .i64 0,.string ⟨#[]⟩] 55 (0,0)):=blk6 hx3 2 _;have hq0:Below w.heap.size w (w3.setCell ⟨w.heap.size,2,none⟩ (.int .i64 x)):=hw3.setCell (p:=⟨w.heap.size,2,none⟩) (Nat.le_refl _) _;have hs1:((w3.setCell ⟨w.heap.size,2,none⟩ (.int .i64 x)).setCell ⟨w.heap.size,3,none⟩ (.int .i64 y)).heap[w.heap.size]?=some (.cells #[.int .i64 4,.string ⟨#[]⟩,.int .i64 x,.int .i64 y,.int .i64 0,.string ⟨#[]⟩] 55 (0,0)):=blk6 hs0 3 _;have hq1:Below w.heap.size w ((w3.setCell ⟨w.heap.size,2,none⟩ (.int .i64 x)).setCell ⟨w.heap.size,3,none⟩ (.int .i64 y)):=hq0.setCell (p:=⟨w.heap.size,3,none⟩) (Nat.le_refl _) _;have hs2:(((w3.setCell ⟨w.heap.size,2,none⟩ (.int .i64 x)).setCell ⟨w.heap.size,3,none⟩ (.int .i64 y)).setCell ⟨w.heap.size,1,none⟩ (.string p)).heap[w.heap.size]?=some (.cells #[.int .i64 4,.string p,.int .i64 x,.int .i64 y,.int .i64 0,.string ⟨#[]⟩] 55 (0,0)):=blk6 hs1 1 _;have hq2:Below w.heap.size w (((w3.setCell ⟨w.heap.size,2,none⟩ (.int .i64 x)).setCell ⟨w.heap.size,3,none⟩ (.int .i64 y)).setCell ⟨w.heap.size,1,none⟩ (.string p)):=hq1.setCell (p:=⟨w.heap.size,1,none⟩) (Nat.le_refl _) _;have a2:=Jaa hx3 2;have y2:=Jab hx3 2;have a3:=Jaa hx3 3;have y3:=Jab hx3 3;have a1:=Jaa hx3 1;have y1:=Jab hx3 1;have a0_3:=Jaa hs0 3;have y0_3:=Jab hs0 3;have a0_1:=Jaa hs0 1;have y0_1:=Jab hs0 1;have a1_1:=Jaa hs1 1;have y1_1:=Jab hs1 1;obtain⟨W4,hW4⟩:=words.nm ((((w3.setCell ⟨w.heap.size,2,none⟩ (.int .i64 x)).setCell ⟨w.heap.size,3,none⟩ (.int .i64 y)).setCell ⟨w.heap.size,1,none⟩ (.string p)));have hx4:=hs2;have hbW:=hq2;rw [←hW4] at hx4 hbW;have HW4:=hid hW4.symm;have HP:=hid (Ja6 (k:=4) (s:=s) hbW (Nat.le_refl _) hx4 p x y 0 ⟨#[]⟩ true (.inl ⟨rfl,by rw [Jvv,h1];rfl,hfit.1,hfit.2,Jdk,by omega,by decide⟩));have d0:W4.cell? ⟨w.heap.size,0,none⟩=some (.int .i64 4):=Jaa hx4 0;have z0:=Jab hx4 0;have d1:W4.cell? ⟨w.heap.size,1,none⟩=some (.string p):=Jaa hx4 1;have z1:=Jab hx4 1;have d2:W4.cell? ⟨w.heap.size,2,none⟩=some (.int .i64 x):=Jaa hx4 2;have z2:=Jab hx4 2;have d3:W4.cell? ⟨w.heap.size,3,none⟩=some (.int .i64 y):=Jaa hx4 3;have z3:=Jab hx4 3;have d4:W4.cell? ⟨w.heap.size,4,none⟩=some (.int .i64 0):=Jaa hx4 4;have z4:=Jab hx4 4;have d5:W4.cell? ⟨w.heap.size,5,none⟩=some (.string ⟨#[]⟩):=Jaa hx4 5;have z5:=Jab hx4 5;clear hs0 hq0 hs1 hq1 hs2 hq2 hW4 hx4 hbW hb3 hx3 hw3 h1 hfit HC;go_upto_region 14 with fail
   rw [HW4.out];clear HW4;go_wp2_with fail
   obtain⟨p0,p1,p2,p3,p4,p5,HE⟩:=HP.out _ rfl;unfold set6 at p0 p1 p2 p3 p4 p5 HE;exact bodyPost_ret (v:= .tuple #[.agg #[.int .i64 4,.string p,.int .i64 x,.int .i64 y,.int .i64 0,.string ⟨#[]⟩],.bool true]) (by simp [results,results110,go_sem,p0,p1,p2,p3,p4,p5]) rfl HE
  ·have hs0:(w3.setCell ⟨w.heap.size,2,none⟩ (.int .i64 x)).heap[w.heap.size]?=some (.cells #[.int .i64 4,.string ⟨#[]⟩,.int .i64 x,.int .i64 0,.int .i64 0,.string ⟨#[]⟩] 55 (0,0)):=blk6 hx3 2 _
   have hq0:Below w.heap.size w (w3.setCell ⟨w.heap.size,2,none⟩ (.int .i64 x)):=hw3.setCell (p:=⟨w.heap.size,2,none⟩) (Nat.le_refl _) _;have hs1:((w3.setCell ⟨w.heap.size,2,none⟩ (.int .i64 x)).setCell ⟨w.heap.size,3,none⟩ (.int .i64 y)).heap[w.heap.size]?=some (.cells #[.int .i64 4,.string ⟨#[]⟩,.int .i64 x,.int .i64 y,.int .i64 0,.string ⟨#[]⟩] 55 (0,0)):=blk6 hs0 3 _;have hq1:Below w.heap.size w ((w3.setCell ⟨w.heap.size,2,none⟩ (.int .i64 x)).setCell ⟨w.heap.size,3,none⟩ (.int .i64 y)):=hq0.setCell (p:=⟨w.heap.size,3,none⟩) (Nat.le_refl _) _;have hs2:(((w3.setCell ⟨w.heap.size,2,none⟩ (.int .i64 x)).setCell ⟨w.heap.size,3,none⟩ (.int .i64 y)).setCell ⟨w.heap.size,1,none⟩ (.string p)).heap[w.heap.size]?=some (.cells #[.int .i64 4,.string p,.int .i64 x,.int .i64 y,.int .i64 0,.string ⟨#[]⟩] 55 (0,0)):=blk6 hs1 1 _;have hq2:Below w.heap.size w (((w3.setCell ⟨w.heap.size,2,none⟩ (.int .i64 x)).setCell ⟨w.heap.size,3,none⟩ (.int .i64 y)).setCell ⟨w.heap.size,1,none⟩ (.string p)):=hq1.setCell (p:=⟨w.heap.size,1,none⟩) (Nat.le_refl _) _;have a2:=Jaa hx3 2;have y2:=Jab hx3 2;have a3:=Jaa hx3 3;have y3:=Jab hx3 3;have a1:=Jaa hx3 1;have y1:=Jab hx3 1;have a0_3:=Jaa hs0 3;have y0_3:=Jab hs0 3;have a0_1:=Jaa hs0 1;have y0_1:=Jab hs0 1;have a1_1:=Jaa hs1 1;have y1_1:=Jab hs1 1;obtain⟨W4,hW4⟩:=words.nm ((((w3.setCell ⟨w.heap.size,2,none⟩ (.int .i64 x)).setCell ⟨w.heap.size,3,none⟩ (.int .i64 y)).setCell ⟨w.heap.size,1,none⟩ (.string p)));have hx4:=hs2;have hbW:=hq2;rw [←hW4] at hx4 hbW;have HW4:=hid hW4.symm;have HP:=hid (Ja6 (k:=4) (s:=s) hbW (Nat.le_refl _) hx4 p x y 0 ⟨#[]⟩ false (.inr ⟨rfl,by rw [Jvv,h1];rfl⟩));have d0:W4.cell? ⟨w.heap.size,0,none⟩=some (.int .i64 4):=Jaa hx4 0;have z0:=Jab hx4 0;have d1:W4.cell? ⟨w.heap.size,1,none⟩=some (.string p):=Jaa hx4 1;have z1:=Jab hx4 1;have d2:W4.cell? ⟨w.heap.size,2,none⟩=some (.int .i64 x):=Jaa hx4 2;have z2:=Jab hx4 2;have d3:W4.cell? ⟨w.heap.size,3,none⟩=some (.int .i64 y):=Jaa hx4 3;have z3:=Jab hx4 3;have d4:W4.cell? ⟨w.heap.size,4,none⟩=some (.int .i64 0):=Jaa hx4 4;have z4:=Jab hx4 4;have d5:W4.cell? ⟨w.heap.size,5,none⟩=some (.string ⟨#[]⟩):=Jaa hx4 5;have z5:=Jab hx4 5;clear hs0 hq0 hs1 hq1 hs2 hq2 hW4 hx4 hbW hb3 hx3 hw3 h1 HC;go_upto_region 14 with fail
   rw [HW4.out];clear HW4;go_wp2_with fail
   obtain⟨p0,p1,p2,p3,p4,p5,HE⟩:=HP.out _ rfl;unfold set6 at p0 p1 p2 p3 p4 p5 HE;exact bodyPost_ret (v:= .tuple #[.agg #[.int .i64 4,.string p,.int .i64 x,.int .i64 y,.int .i64 0,.string ⟨#[]⟩],.bool false]) (by simp [results,results110,go_sem,p0,p1,p2,p3,p4,p5]) rfl HE
 have g4:(k==4)=false:=by rw [beq_eq_false_iff_ne];exact h4
 by_cases h6:k=6
 ·subst h6
  clear h4;have HC:=hid (Jdl m s W2 hs HE2.out);go_wp2_with fail
  refine HC.out.mono ?_;rintro e w3 ⟨⟨a,b,f,rfl,hc⟩,hb3⟩;have hz:=Jem hc;have HN:=hid (Jbp m a b w3 (by omega) (by omega) (HE2.out.later hb3));have HB3:=hid hb3;have HCt:=hid hc;clear hc hb3 hz HC;go_wp2_with fail
  refine HN.out.mono ?_;rintro e w4 ⟨ho,hb4⟩;have hb3:=HB3.out.trans (hb4.mono HB3.out.size);have hx3:=(hb3.block _ (lt_of_some HX2.out)).trans HX2.out;have hw3:=HB2.out.trans (hb3.mono HB2.out.size);rcases ho with⟨⟨x,y⟩,h1,rfl⟩ |⟨h1,x,y,rfl⟩
  ·have hfit:=Jm6 h1
   have hs0:(w4.setCell ⟨w.heap.size,4,none⟩ (.int .i64 x)).heap[w.heap.size]?=some (.cells #[.int .i64 6,.string ⟨#[]⟩,.int .i64 0,.int .i64 0,.int .i64 x,.string ⟨#[]⟩] 55 (0,0)):=blk6 hx3 4 _;have hq0:Below w.heap.size w (w4.setCell ⟨w.heap.size,4,none⟩ (.int .i64 x)):=hw3.setCell (p:=⟨w.heap.size,4,none⟩) (Nat.le_refl _) _;have hs1:((w4.setCell ⟨w.heap.size,4,none⟩ (.int .i64 x)).setCell ⟨w.heap.size,3,none⟩ (.int .i64 y)).heap[w.heap.size]?=some (.cells #[.int .i64 6,.string ⟨#[]⟩,.int .i64 0,.int .i64 y,.int .i64 x,.string ⟨#[]⟩] 55 (0,0)):=blk6 hs0 3 _;have hq1:Below w.heap.size w ((w4.setCell ⟨w.heap.size,4,none⟩ (.int .i64 x)).setCell ⟨w.heap.size,3,none⟩ (.int .i64 y)):=hq0.setCell (p:=⟨w.heap.size,3,none⟩) (Nat.le_refl _) _;have a4:=Jaa hx3 4;have y4:=Jab hx3 4;have a3:=Jaa hx3 3;have y3:=Jab hx3 3;have a0_3:=Jaa hs0 3;have y0_3:=Jab hs0 3;obtain⟨W4,hW4⟩:=words.nm (((w4.setCell ⟨w.heap.size,4,none⟩ (.int .i64 x)).setCell ⟨w.heap.size,3,none⟩ (.int .i64 y)));have hx4:=hs1;have hbW:=hq1;rw [←hW4] at hx4 hbW;have HW4:=hid hW4.symm;have HP:=hid (Ja6 (k:=6) (s:=s) hbW (Nat.le_refl _) hx4 ⟨#[]⟩ 0 y x ⟨#[]⟩ true (.inl ⟨rfl,by rw [Jvn,HCt.out,h1];rfl,Jdk,hfit.2,hfit.1,by decide,by decide⟩));have d0:W4.cell? ⟨w.heap.size,0,none⟩=some (.int .i64 6):=Jaa hx4 0;have z0:=Jab hx4 0;have d1:W4.cell? ⟨w.heap.size,1,none⟩=some (.string ⟨#[]⟩):=Jaa hx4 1;have z1:=Jab hx4 1;have d2:W4.cell? ⟨w.heap.size,2,none⟩=some (.int .i64 0):=Jaa hx4 2;have z2:=Jab hx4 2;have d3:W4.cell? ⟨w.heap.size,3,none⟩=some (.int .i64 y):=Jaa hx4 3;have z3:=Jab hx4 3;have d4:W4.cell? ⟨w.heap.size,4,none⟩=some (.int .i64 x):=Jaa hx4 4;have z4:=Jab hx4 4;have d5:W4.cell? ⟨w.heap.size,5,none⟩=some (.string ⟨#[]⟩):=Jaa hx4 5;have z5:=Jab hx4 5;clear hs0 hq0 hs1 hq1 hW4 hx4 hbW hb3 hb4 hx3 hw3 h1 hfit HN;go_upto_region 14 with fail
   rw [HW4.out];clear HW4;go_wp2_with fail
   obtain⟨p0,p1,p2,p3,p4,p5,HE⟩:=HP.out _ rfl;unfold set6 at p0 p1 p2 p3 p4 p5 HE;exact bodyPost_ret (v:= .tuple #[.agg #[.int .i64 6,.string ⟨#[]⟩,.int .i64 0,.int .i64 y,.int .i64 x,.string ⟨#[]⟩],.bool true]) (by simp [results,results110,go_sem,p0,p1,p2,p3,p4,p5]) rfl HE
  ·have hs0:(w4.setCell ⟨w.heap.size,4,none⟩ (.int .i64 x)).heap[w.heap.size]?=some (.cells #[.int .i64 6,.string ⟨#[]⟩,.int .i64 0,.int .i64 0,.int .i64 x,.string ⟨#[]⟩] 55 (0,0)):=blk6 hx3 4 _
   have hq0:Below w.heap.size w (w4.setCell ⟨w.heap.size,4,none⟩ (.int .i64 x)):=hw3.setCell (p:=⟨w.heap.size,4,none⟩) (Nat.le_refl _) _;have hs1:((w4.setCell ⟨w.heap.size,4,none⟩ (.int .i64 x)).setCell ⟨w.heap.size,3,none⟩ (.int .i64 y)).heap[w.heap.size]?=some (.cells #[.int .i64 6,.string ⟨#[]⟩,.int .i64 0,.int .i64 y,.int .i64 x,.string ⟨#[]⟩] 55 (0,0)):=blk6 hs0 3 _;have hq1:Below w.heap.size w ((w4.setCell ⟨w.heap.size,4,none⟩ (.int .i64 x)).setCell ⟨w.heap.size,3,none⟩ (.int .i64 y)):=hq0.setCell (p:=⟨w.heap.size,3,none⟩) (Nat.le_refl _) _;have a4:=Jaa hx3 4;have y4:=Jab hx3 4;have a3:=Jaa hx3 3;have y3:=Jab hx3 3;have a0_3:=Jaa hs0 3;have y0_3:=Jab hs0 3;obtain⟨W4,hW4⟩:=words.nm (((w4.setCell ⟨w.heap.size,4,none⟩ (.int .i64 x)).setCell ⟨w.heap.size,3,none⟩ (.int .i64 y)));have hx4:=hs1;have hbW:=hq1;rw [←hW4] at hx4 hbW;have HW4:=hid hW4.symm;have HP:=hid (Ja6 (k:=6) (s:=s) hbW (Nat.le_refl _) hx4 ⟨#[]⟩ 0 y x ⟨#[]⟩ false (.inr ⟨rfl,by rw [Jvn,HCt.out,h1];rfl⟩));have d0:W4.cell? ⟨w.heap.size,0,none⟩=some (.int .i64 6):=Jaa hx4 0;have z0:=Jab hx4 0;have d1:W4.cell? ⟨w.heap.size,1,none⟩=some (.string ⟨#[]⟩):=Jaa hx4 1;have z1:=Jab hx4 1;have d2:W4.cell? ⟨w.heap.size,2,none⟩=some (.int .i64 0):=Jaa hx4 2;have z2:=Jab hx4 2;have d3:W4.cell? ⟨w.heap.size,3,none⟩=some (.int .i64 y):=Jaa hx4 3;have z3:=Jab hx4 3;have d4:W4.cell? ⟨w.heap.size,4,none⟩=some (.int .i64 x):=Jaa hx4 4;have z4:=Jab hx4 4;have d5:W4.cell? ⟨w.heap.size,5,none⟩=some (.string ⟨#[]⟩):=Jaa hx4 5;have z5:=Jab hx4 5;clear hs0 hq0 hs1 hq1 hW4 hx4 hbW hb3 hb4 hx3 hw3 h1 HN;go_upto_region 14 with fail
   rw [HW4.out];clear HW4;go_wp2_with fail
   obtain⟨p0,p1,p2,p3,p4,p5,HE⟩:=HP.out _ rfl;unfold set6 at p0 p1 p2 p3 p4 p5 HE;exact bodyPost_ret (v:= .tuple #[.agg #[.int .i64 6,.string ⟨#[]⟩,.int .i64 0,.int .i64 y,.int .i64 x,.string ⟨#[]⟩],.bool false]) (by simp [results,results110,go_sem,p0,p1,p2,p3,p4,p5]) rfl HE
 have g6:(k==6)=false:=by rw [beq_eq_false_iff_ne];exact h6
 by_cases h7:k=7
 ·subst h7
  clear h4 h6;have HC:=hid (Jak m s W2 (by omega) HE2.out);have HRd:Hid (readM 7 s.data.toList=(numP s.data.toList).map fun x=>⟨7,[],0,0,x,[]⟩):=hid rfl;go_wp2_with fail
  refine HC.out.mono ?_;rintro e w3 ⟨ho,hb3⟩;have hx3:=(hb3.block _ (lt_of_some HX2.out)).trans HX2.out;have hw3:=HB2.out.trans (hb3.mono HB2.out.size);rcases ho with⟨h1,rfl⟩ |⟨x,h1,rfl⟩
  ·have hs0:(w3.setCell ⟨w.heap.size,4,none⟩ (.int .i64 0)).heap[w.heap.size]?=some (.cells #[.int .i64 7,.string ⟨#[]⟩,.int .i64 0,.int .i64 0,.int .i64 0,.string ⟨#[]⟩] 55 (0,0)):=blk6 hx3 4 _
   have hq0:Below w.heap.size w (w3.setCell ⟨w.heap.size,4,none⟩ (.int .i64 0)):=hw3.setCell (p:=⟨w.heap.size,4,none⟩) (Nat.le_refl _) _;have a4:=Jaa hx3 4;have y4:=Jab hx3 4;obtain⟨W4,hW4⟩:=words.nm ((w3.setCell ⟨w.heap.size,4,none⟩ (.int .i64 0)));have hx4:=hs0;have hbW:=hq0;rw [←hW4] at hx4 hbW;have HW4:=hid hW4.symm;have HP:=hid (Ja6 (k:=7) (s:=s) hbW (Nat.le_refl _) hx4 ⟨#[]⟩ 0 0 0 ⟨#[]⟩ false (.inr ⟨rfl,by rw [HRd.out,h1];rfl⟩));have d0:W4.cell? ⟨w.heap.size,0,none⟩=some (.int .i64 7):=Jaa hx4 0;have z0:=Jab hx4 0;have d1:W4.cell? ⟨w.heap.size,1,none⟩=some (.string ⟨#[]⟩):=Jaa hx4 1;have z1:=Jab hx4 1;have d2:W4.cell? ⟨w.heap.size,2,none⟩=some (.int .i64 0):=Jaa hx4 2;have z2:=Jab hx4 2;have d3:W4.cell? ⟨w.heap.size,3,none⟩=some (.int .i64 0):=Jaa hx4 3;have z3:=Jab hx4 3;have d4:W4.cell? ⟨w.heap.size,4,none⟩=some (.int .i64 0):=Jaa hx4 4;have z4:=Jab hx4 4;have d5:W4.cell? ⟨w.heap.size,5,none⟩=some (.string ⟨#[]⟩):=Jaa hx4 5;have z5:=Jab hx4 5;clear hs0 hq0 hW4 hx4 hbW hb3 hx3 hw3 h1 HC;go_upto_region 14 with fail
   rw [HW4.out];clear HW4;go_wp2_with fail
   obtain⟨p0,p1,p2,p3,p4,p5,HE⟩:=HP.out _ rfl;unfold set6 at p0 p1 p2 p3 p4 p5 HE;exact bodyPost_ret (v:= .tuple #[.agg #[.int .i64 7,.string ⟨#[]⟩,.int .i64 0,.int .i64 0,.int .i64 0,.string ⟨#[]⟩],.bool false]) (by simp [results,results110,go_sem,p0,p1,p2,p3,p4,p5]) rfl HE
  ·have hfit:=(Jcw h1).2
   have hs0:(w3.setCell ⟨w.heap.size,4,none⟩ (.int .i64 x)).heap[w.heap.size]?=some (.cells #[.int .i64 7,.string ⟨#[]⟩,.int .i64 0,.int .i64 0,.int .i64 x,.string ⟨#[]⟩] 55 (0,0)):=blk6 hx3 4 _;have hq0:Below w.heap.size w (w3.setCell ⟨w.heap.size,4,none⟩ (.int .i64 x)):=hw3.setCell (p:=⟨w.heap.size,4,none⟩) (Nat.le_refl _) _;have a4:=Jaa hx3 4;have y4:=Jab hx3 4;obtain⟨W4,hW4⟩:=words.nm ((w3.setCell ⟨w.heap.size,4,none⟩ (.int .i64 x)));have hx4:=hs0;have hbW:=hq0;rw [←hW4] at hx4 hbW;have HW4:=hid hW4.symm;have HP:=hid (Ja6 (k:=7) (s:=s) hbW (Nat.le_refl _) hx4 ⟨#[]⟩ 0 0 x ⟨#[]⟩ true (.inl ⟨rfl,by rw [HRd.out,h1];rfl,Jdk,Jdk,hfit,by decide,by decide⟩));have d0:W4.cell? ⟨w.heap.size,0,none⟩=some (.int .i64 7):=Jaa hx4 0;have z0:=Jab hx4 0;have d1:W4.cell? ⟨w.heap.size,1,none⟩=some (.string ⟨#[]⟩):=Jaa hx4 1;have z1:=Jab hx4 1;have d2:W4.cell? ⟨w.heap.size,2,none⟩=some (.int .i64 0):=Jaa hx4 2;have z2:=Jab hx4 2;have d3:W4.cell? ⟨w.heap.size,3,none⟩=some (.int .i64 0):=Jaa hx4 3;have z3:=Jab hx4 3;have d4:W4.cell? ⟨w.heap.size,4,none⟩=some (.int .i64 x):=Jaa hx4 4;have z4:=Jab hx4 4;have d5:W4.cell? ⟨w.heap.size,5,none⟩=some (.string ⟨#[]⟩):=Jaa hx4 5;have z5:=Jab hx4 5;clear hs0 hq0 hW4 hx4 hbW hb3 hx3 hw3 h1 hfit HC;go_upto_region 14 with fail
   rw [HW4.out];clear HW4;go_wp2_with fail
   obtain⟨p0,p1,p2,p3,p4,p5,HE⟩:=HP.out _ rfl;unfold set6 at p0 p1 p2 p3 p4 p5 HE;exact bodyPost_ret (v:= .tuple #[.agg #[.int .i64 7,.string ⟨#[]⟩,.int .i64 0,.int .i64 0,.int .i64 x,.string ⟨#[]⟩],.bool true]) (by simp [results,results110,go_sem,p0,p1,p2,p3,p4,p5]) rfl HE
 have g7:(k==7)=false:=by rw [beq_eq_false_iff_ne];exact h7
 by_cases h9:k=9
 ·subst h9
  clear h4 h6 h7;have HC:=hid (Jak m s W2 (by omega) HE2.out);have HRd:Hid (readM 9 s.data.toList=(numP s.data.toList).map fun x=>⟨9,[],0,0,x,[]⟩):=hid rfl;go_wp2_with fail
  refine HC.out.mono ?_;rintro e w3 ⟨ho,hb3⟩;have hx3:=(hb3.block _ (lt_of_some HX2.out)).trans HX2.out;have hw3:=HB2.out.trans (hb3.mono HB2.out.size);rcases ho with⟨h1,rfl⟩ |⟨x,h1,rfl⟩
  ·have hs0:(w3.setCell ⟨w.heap.size,4,none⟩ (.int .i64 0)).heap[w.heap.size]?=some (.cells #[.int .i64 9,.string ⟨#[]⟩,.int .i64 0,.int .i64 0,.int .i64 0,.string ⟨#[]⟩] 55 (0,0)):=blk6 hx3 4 _
   have hq0:Below w.heap.size w (w3.setCell ⟨w.heap.size,4,none⟩ (.int .i64 0)):=hw3.setCell (p:=⟨w.heap.size,4,none⟩) (Nat.le_refl _) _;have a4:=Jaa hx3 4;have y4:=Jab hx3 4;obtain⟨W4,hW4⟩:=words.nm ((w3.setCell ⟨w.heap.size,4,none⟩ (.int .i64 0)));have hx4:=hs0;have hbW:=hq0;rw [←hW4] at hx4 hbW;have HW4:=hid hW4.symm;have HP:=hid (Ja6 (k:=9) (s:=s) hbW (Nat.le_refl _) hx4 ⟨#[]⟩ 0 0 0 ⟨#[]⟩ false (.inr ⟨rfl,by rw [HRd.out,h1];rfl⟩));have d0:W4.cell? ⟨w.heap.size,0,none⟩=some (.int .i64 9):=Jaa hx4 0;have z0:=Jab hx4 0;have d1:W4.cell? ⟨w.heap.size,1,none⟩=some (.string ⟨#[]⟩):=Jaa hx4 1;have z1:=Jab hx4 1;have d2:W4.cell? ⟨w.heap.size,2,none⟩=some (.int .i64 0):=Jaa hx4 2;have z2:=Jab hx4 2;have d3:W4.cell? ⟨w.heap.size,3,none⟩=some (.int .i64 0):=Jaa hx4 3;have z3:=Jab hx4 3;have d4:W4.cell? ⟨w.heap.size,4,none⟩=some (.int .i64 0):=Jaa hx4 4;have z4:=Jab hx4 4;have d5:W4.cell? ⟨w.heap.size,5,none⟩=some (.string ⟨#[]⟩):=Jaa hx4 5;have z5:=Jab hx4 5;clear hs0 hq0 hW4 hx4 hbW hb3 hx3 hw3 h1 HC;go_upto_region 14 with fail
   rw [HW4.out];clear HW4;go_wp2_with fail
   obtain⟨p0,p1,p2,p3,p4,p5,HE⟩:=HP.out _ rfl;unfold set6 at p0 p1 p2 p3 p4 p5 HE;exact bodyPost_ret (v:= .tuple #[.agg #[.int .i64 9,.string ⟨#[]⟩,.int .i64 0,.int .i64 0,.int .i64 0,.string ⟨#[]⟩],.bool false]) (by simp [results,results110,go_sem,p0,p1,p2,p3,p4,p5]) rfl HE
  ·have hfit:=(Jcw h1).2
   have hs0:(w3.setCell ⟨w.heap.size,4,none⟩ (.int .i64 x)).heap[w.heap.size]?=some (.cells #[.int .i64 9,.string ⟨#[]⟩,.int .i64 0,.int .i64 0,.int .i64 x,.string ⟨#[]⟩] 55 (0,0)):=blk6 hx3 4 _;have hq0:Below w.heap.size w (w3.setCell ⟨w.heap.size,4,none⟩ (.int .i64 x)):=hw3.setCell (p:=⟨w.heap.size,4,none⟩) (Nat.le_refl _) _;have a4:=Jaa hx3 4;have y4:=Jab hx3 4;obtain⟨W4,hW4⟩:=words.nm ((w3.setCell ⟨w.heap.size,4,none⟩ (.int .i64 x)));have hx4:=hs0;have hbW:=hq0;rw [←hW4] at hx4 hbW;have HW4:=hid hW4.symm;have HP:=hid (Ja6 (k:=9) (s:=s) hbW (Nat.le_refl _) hx4 ⟨#[]⟩ 0 0 x ⟨#[]⟩ true (.inl ⟨rfl,by rw [HRd.out,h1];rfl,Jdk,Jdk,hfit,by decide,by decide⟩));have d0:W4.cell? ⟨w.heap.size,0,none⟩=some (.int .i64 9):=Jaa hx4 0;have z0:=Jab hx4 0;have d1:W4.cell? ⟨w.heap.size,1,none⟩=some (.string ⟨#[]⟩):=Jaa hx4 1;have z1:=Jab hx4 1;have d2:W4.cell? ⟨w.heap.size,2,none⟩=some (.int .i64 0):=Jaa hx4 2;have z2:=Jab hx4 2;have d3:W4.cell? ⟨w.heap.size,3,none⟩=some (.int .i64 0):=Jaa hx4 3;have z3:=Jab hx4 3;have d4:W4.cell? ⟨w.heap.size,4,none⟩=some (.int .i64 x):=Jaa hx4 4;have z4:=Jab hx4 4;have d5:W4.cell? ⟨w.heap.size,5,none⟩=some (.string ⟨#[]⟩):=Jaa hx4 5;have z5:=Jab hx4 5;clear hs0 hq0 hW4 hx4 hbW hb3 hx3 hw3 h1 hfit HC;go_upto_region 14 with fail
   rw [HW4.out];clear HW4;go_wp2_with fail
   obtain⟨p0,p1,p2,p3,p4,p5,HE⟩:=HP.out _ rfl;unfold set6 at p0 p1 p2 p3 p4 p5 HE;exact bodyPost_ret (v:= .tuple #[.agg #[.int .i64 9,.string ⟨#[]⟩,.int .i64 0,.int .i64 0,.int .i64 x,.string ⟨#[]⟩],.bool true]) (by simp [results,results110,go_sem,p0,p1,p2,p3,p4,p5]) rfl HE
 have g9:(k==9)=false:=by rw [beq_eq_false_iff_ne];exact h9
 by_cases h8:k=8
 ·subst h8
  clear h4 h6 h7 h9;have HC:=hid (Jjy s W2 (by omega));have HRd:Hid (readM 8 s.data.toList=(unH s.data.toList).map fun x=>⟨8,[],0,0,0,x⟩):=hid rfl;go_wp2_with fail
  refine HC.out.mono ?_;rintro e w3 ⟨ho,hb3⟩;have hx3:=(hb3.block _ (lt_of_some HX2.out)).trans HX2.out;have hw3:=HB2.out.trans (hb3.mono HB2.out.size);rcases ho with⟨h1,rfl⟩ |⟨r,h1,rfl⟩
  ·have hs0:(w3.setCell ⟨w.heap.size,5,none⟩ (.string ⟨#[]⟩)).heap[w.heap.size]?=some (.cells #[.int .i64 8,.string ⟨#[]⟩,.int .i64 0,.int .i64 0,.int .i64 0,.string ⟨#[]⟩] 55 (0,0)):=blk6 hx3 5 _
   have hq0:Below w.heap.size w (w3.setCell ⟨w.heap.size,5,none⟩ (.string ⟨#[]⟩)):=hw3.setCell (p:=⟨w.heap.size,5,none⟩) (Nat.le_refl _) _;have a5:=Jaa hx3 5;have y5:=Jab hx3 5;obtain⟨W4,hW4⟩:=words.nm ((w3.setCell ⟨w.heap.size,5,none⟩ (.string ⟨#[]⟩)));have hx4:=hs0;have hbW:=hq0;rw [←hW4] at hx4 hbW;have HW4:=hid hW4.symm;have HP:=hid (Ja6 (k:=8) (s:=s) hbW (Nat.le_refl _) hx4 ⟨#[]⟩ 0 0 0 ⟨#[]⟩ false (.inr ⟨rfl,by rw [HRd.out,h1];rfl⟩));have d0:W4.cell? ⟨w.heap.size,0,none⟩=some (.int .i64 8):=Jaa hx4 0;have z0:=Jab hx4 0;have d1:W4.cell? ⟨w.heap.size,1,none⟩=some (.string ⟨#[]⟩):=Jaa hx4 1;have z1:=Jab hx4 1;have d2:W4.cell? ⟨w.heap.size,2,none⟩=some (.int .i64 0):=Jaa hx4 2;have z2:=Jab hx4 2;have d3:W4.cell? ⟨w.heap.size,3,none⟩=some (.int .i64 0):=Jaa hx4 3;have z3:=Jab hx4 3;have d4:W4.cell? ⟨w.heap.size,4,none⟩=some (.int .i64 0):=Jaa hx4 4;have z4:=Jab hx4 4;have d5:W4.cell? ⟨w.heap.size,5,none⟩=some (.string ⟨#[]⟩):=Jaa hx4 5;have z5:=Jab hx4 5;clear hs0 hq0 hW4 hx4 hbW hb3 hx3 hw3 h1 HC;go_upto_region 14 with fail
   rw [HW4.out];clear HW4;go_wp2_with fail
   obtain⟨p0,p1,p2,p3,p4,p5,HE⟩:=HP.out _ rfl;unfold set6 at p0 p1 p2 p3 p4 p5 HE;exact bodyPost_ret (v:= .tuple #[.agg #[.int .i64 8,.string ⟨#[]⟩,.int .i64 0,.int .i64 0,.int .i64 0,.string ⟨#[]⟩],.bool false]) (by simp [results,results110,go_sem,p0,p1,p2,p3,p4,p5]) rfl HE
  ·have hfit:r.size≤1000000:=by have:=Ju9 h1;rw [size_list,size_list] at this;omega
   have hs0:(w3.setCell ⟨w.heap.size,5,none⟩ (.string r)).heap[w.heap.size]?=some (.cells #[.int .i64 8,.string ⟨#[]⟩,.int .i64 0,.int .i64 0,.int .i64 0,.string r] 55 (0,0)):=blk6 hx3 5 _;have hq0:Below w.heap.size w (w3.setCell ⟨w.heap.size,5,none⟩ (.string r)):=hw3.setCell (p:=⟨w.heap.size,5,none⟩) (Nat.le_refl _) _;have a5:=Jaa hx3 5;have y5:=Jab hx3 5;obtain⟨W4,hW4⟩:=words.nm ((w3.setCell ⟨w.heap.size,5,none⟩ (.string r)));have hx4:=hs0;have hbW:=hq0;rw [←hW4] at hx4 hbW;have HW4:=hid hW4.symm;have HP:=hid (Ja6 (k:=8) (s:=s) hbW (Nat.le_refl _) hx4 ⟨#[]⟩ 0 0 0 r true (.inl ⟨rfl,by rw [HRd.out,h1];rfl,Jdk,Jdk,Jdk,by decide,hfit⟩));have d0:W4.cell? ⟨w.heap.size,0,none⟩=some (.int .i64 8):=Jaa hx4 0;have z0:=Jab hx4 0;have d1:W4.cell? ⟨w.heap.size,1,none⟩=some (.string ⟨#[]⟩):=Jaa hx4 1;have z1:=Jab hx4 1;have d2:W4.cell? ⟨w.heap.size,2,none⟩=some (.int .i64 0):=Jaa hx4 2;have z2:=Jab hx4 2;have d3:W4.cell? ⟨w.heap.size,3,none⟩=some (.int .i64 0):=Jaa hx4 3;have z3:=Jab hx4 3;have d4:W4.cell? ⟨w.heap.size,4,none⟩=some (.int .i64 0):=Jaa hx4 4;have z4:=Jab hx4 4;have d5:W4.cell? ⟨w.heap.size,5,none⟩=some (.string r):=Jaa hx4 5;have z5:=Jab hx4 5;clear hs0 hq0 hW4 hx4 hbW hb3 hx3 hw3 h1 hfit HC;go_upto_region 14 with fail
   rw [HW4.out];clear HW4;go_wp2_with fail
   obtain⟨p0,p1,p2,p3,p4,p5,HE⟩:=HP.out _ rfl;unfold set6 at p0 p1 p2 p3 p4 p5 HE;exact bodyPost_ret (v:= .tuple #[.agg #[.int .i64 8,.string ⟨#[]⟩,.int .i64 0,.int .i64 0,.int .i64 0,.string r],.bool true]) (by simp [results,results110,go_sem,p0,p1,p2,p3,p4,p5]) rfl HE
 have g8:(k==8)=false:=by rw [beq_eq_false_iff_ne];exact h8
 have HRd:Hid (readM k s.data.toList=some ⟨k,s.data.toList,0,0,0,[]⟩):=hid (by unfold readM;rw [if_neg h4,if_neg h6,if_neg (fun h=>h.elim h7 h9),if_neg h8]);have hx3:=HX2.out;have hw3:=HB2.out;clear h4 h6 h7 h9 h8;have hs0:(W2.setCell ⟨w.heap.size,1,none⟩ (.string s)).heap[w.heap.size]?=some (.cells #[.int .i64 k,.string s,.int .i64 0,.int .i64 0,.int .i64 0,.string ⟨#[]⟩] 55 (0,0)):=blk6 hx3 1 _;have hq0:Below w.heap.size w (W2.setCell ⟨w.heap.size,1,none⟩ (.string s)):=hw3.setCell (p:=⟨w.heap.size,1,none⟩) (Nat.le_refl _) _;have a1:=Jaa hx3 1;have y1:=Jab hx3 1;obtain⟨W4,hW4⟩:=words.nm ((W2.setCell ⟨w.heap.size,1,none⟩ (.string s)));have hx4:=hs0;have hbW:=hq0;rw [←hW4] at hx4 hbW;have HW4:=hid hW4.symm;have HP:=hid (Ja6 (k:=k) (s:=s) hbW (Nat.le_refl _) hx4 s 0 0 0 ⟨#[]⟩ true (.inl ⟨rfl,HRd.out,Jdk,Jdk,Jdk,hs,by decide⟩));have d0:W4.cell? ⟨w.heap.size,0,none⟩=some (.int .i64 k):=Jaa hx4 0;have z0:=Jab hx4 0;have d1:W4.cell? ⟨w.heap.size,1,none⟩=some (.string s):=Jaa hx4 1;have z1:=Jab hx4 1;have d2:W4.cell? ⟨w.heap.size,2,none⟩=some (.int .i64 0):=Jaa hx4 2;have z2:=Jab hx4 2;have d3:W4.cell? ⟨w.heap.size,3,none⟩=some (.int .i64 0):=Jaa hx4 3;have z3:=Jab hx4 3;have d4:W4.cell? ⟨w.heap.size,4,none⟩=some (.int .i64 0):=Jaa hx4 4;have z4:=Jab hx4 4;have d5:W4.cell? ⟨w.heap.size,5,none⟩=some (.string ⟨#[]⟩):=Jaa hx4 5;have z5:=Jab hx4 5;clear hs0 hq0 hW4 hx4 hbW hx3 hw3;go_upto_region 14 with fail
 rw [HW4.out];clear HW4;go_wp2_with fail
 obtain⟨p0,p1,p2,p3,p4,p5,HE⟩:=HP.out _ rfl;unfold set6 at p0 p1 p2 p3 p4 p5 HE;exact bodyPost_ret (v:= .tuple #[.agg #[.int .i64 k,.string s,.int .i64 0,.int .i64 0,.int .i64 0,.string ⟨#[]⟩],.bool true]) (by simp [results,results110,go_sem,p0,p1,p2,p3,p4,p5]) rfl HE

def ParseO (s:ByteArray) (w:World) (e:Ending) (w':World):Prop:=
 ((∃(k:Int) (p:ByteArray) (o n i:Int) (g:ByteArray),e= .returned (.tuple #[opV k p o n i g,.bool true])∧parseM s.data.toList=some (opM k p o n i g)∧OpFit o n i p g)∨(parseM s.data.toList=none∧e= .returned (.tuple #[opV 0 ⟨#[]⟩ 0 0 0 ⟨#[]⟩,.bool false])))∧Below w.heap.size w w'
theorem Jp1 {w W1:World} {b:Nat} {s:ByteArray} (hb:Below w.heap.size w W1) (hbb:w.heap.size≤b) {u0 u1 u2 u3 u4 u5:Value} (hr:W1.heap[b]?=some (.cells #[u0,u1,u2,u3,u4,u5] 55 (0,0))) (hm:parseM s.data.toList=none):
  ∀W,W=set6 W1 b (.int .i64 0) (.string ⟨#[]⟩) (.int .i64 0) (.int .i64 0) (.int .i64 0) (.string ⟨#[]⟩)→W.cell? ⟨b,0,none⟩=some (.int .i64 0)∧W.cell? ⟨b,1,none⟩=some (.string ⟨#[]⟩)∧W.cell? ⟨b,2,none⟩=some (.int .i64 0)∧W.cell? ⟨b,3,none⟩=some (.int .i64 0)∧W.cell? ⟨b,4,none⟩=some (.int .i64 0)∧W.cell? ⟨b,5,none⟩=some (.string ⟨#[]⟩)∧
   ParseO s w (.returned (.tuple #[.agg #[.int .i64 0,.string ⟨#[]⟩,.int .i64 0,.int .i64 0,.int .i64 0,.string ⟨#[]⟩],.bool false])) W:=fun W hW=>by
 have ho:=over6 (u0:= .int .i64 0) (u1:= .string ⟨#[]⟩) (u2:= .int .i64 0) (u3:= .int .i64 0) (u4:= .int .i64 0) (u5:= .string ⟨#[]⟩) hr;have hbd:=below6 hb hbb (.int .i64 0) (.string ⟨#[]⟩) (.int .i64 0) (.int .i64 0) (.int .i64 0) (.string ⟨#[]⟩);rw [←hW] at ho hbd;exact⟨Jaa ho 0,Jaa ho 1,Jaa ho 2,Jaa ho 3,Jaa ho 4,Jaa ho 5,.inr ⟨hm,rfl⟩,hbd⟩
theorem Jxh {w W1:World} {b:Nat} {s:ByteArray} (hb:Below w.heap.size w W1) (hbb:w.heap.size≤b) {u0 u1 u2 u3 u4 u5:Value} (hr:W1.heap[b]?=some (.cells #[u0,u1,u2,u3,u4,u5] 55 (0,0))) (k:Int) (p:ByteArray) (o n i:Int) (g:ByteArray) (hm:parseM s.data.toList=some (opM k p o n i g)) (hf:OpFit o n i p g):
  ∀W,W=set6 W1 b (.int .i64 k) (.string p) (.int .i64 o) (.int .i64 n) (.int .i64 i) (.string g)→W.cell? ⟨b,0,none⟩=some (.int .i64 k)∧W.cell? ⟨b,1,none⟩=some (.string p)∧W.cell? ⟨b,2,none⟩=some (.int .i64 o)∧W.cell? ⟨b,3,none⟩=some (.int .i64 n)∧W.cell? ⟨b,4,none⟩=some (.int .i64 i)∧W.cell? ⟨b,5,none⟩=some (.string g)∧
   ParseO s w (.returned (.tuple #[.agg #[.int .i64 k,.string p,.int .i64 o,.int .i64 n,.int .i64 i,.string g],.bool true])) W:=fun W hW=>by
 have ho:=over6 (u0:= .int .i64 k) (u1:= .string p) (u2:= .int .i64 o) (u3:= .int .i64 n) (u4:= .int .i64 i) (u5:= .string g) hr;have hbd:=below6 hb hbb (.int .i64 k) (.string p) (.int .i64 o) (.int .i64 n) (.int .i64 i) (.string g);rw [←hW] at ho hbd;exact⟨Jaa ho 0,Jaa ho 1,Jaa ho 2,Jaa ho 3,Jaa ho 4,Jaa ho 5,.inl ⟨k,p,o,n,i,g,rfl,hm,hf⟩,hbd⟩
theorem Jpy (m:Int) (s:ByteArray) (w:World) (hs:s.size≤1000000) (hE:Env m w):Calls prog 73 #[.string s] w (ParseO s w):=by
 obtain⟨W1,hW1⟩:=words.nm (w.alloc (.cells #[.int .i64 0,.string ⟨#[]⟩,.int .i64 0,.int .i64 0,.int .i64 0,.string ⟨#[]⟩] 55));have hb1:=words.b1 hW1;have hx1:W1.heap[w.heap.size]?=some (opB 0 ⟨#[]⟩ 0 0 0 ⟨#[]⟩):=by rw [hW1];exact heap_alloc_new w _
 have HX1:=hid hx1;have HB1:=hid hb1;have HE1:=hid (hE.later hb1);have HEw:=hid hE;have HW1:=hid hW1.symm;have HC:=hid (Jdl m s W1 hs HE1.out);clear hW1 hb1 hx1 hE;go_enter func73,ntmps73
 go_upto_region 1 with fail
 rw [HW1.out];clear HW1;go_wp2_with fail
 refine HC.out.mono ?_;rintro e w3 ⟨⟨a,b,f,rfl,hc⟩,hb3⟩;have hz:=Jem hc;have hx3:=(hb3.block _ (lt_of_some HX1.out)).trans HX1.out;have hw3:=HB1.out.trans (hb3.mono HB1.out.size);unfold opB at hx3;have HE3:=hid (HE1.out.later hb3);cases f with
 |false=>
  have HP:=hid (Jp1 (s:=s) hw3 (Nat.le_refl _) hx3 (by unfold parseM;rw [hc];rfl));have d0:w3.cell? ⟨w.heap.size,0,none⟩=some (.int .i64 0):=Jaa hx3 0;have d1:w3.cell? ⟨w.heap.size,1,none⟩=some (.string ⟨#[]⟩):=Jaa hx3 1;have d2:w3.cell? ⟨w.heap.size,2,none⟩=some (.int .i64 0):=Jaa hx3 2;have d3:w3.cell? ⟨w.heap.size,3,none⟩=some (.int .i64 0):=Jaa hx3 3;have d4:w3.cell? ⟨w.heap.size,4,none⟩=some (.int .i64 0):=Jaa hx3 4;have d5:w3.cell? ⟨w.heap.size,5,none⟩=some (.string ⟨#[]⟩):=Jaa hx3 5;have z0:=Jab hx3 0;have z1:=Jab hx3 1;have z2:=Jab hx3 2;have z3:=Jab hx3 3;have z4:=Jab hx3 4;have z5:=Jab hx3 5;clear hc hz hx3 hw3 hb3 HC;go_wp2_with fail
  obtain⟨p0,p1,p2,p3,p4,p5,HE⟩:=HP.out _ rfl;unfold set6 at p0 p1 p2 p3 p4 p5 HE;exact bodyPost_ret (v:= .tuple #[.agg #[.int .i64 0,.string ⟨#[]⟩,.int .i64 0,.int .i64 0,.int .i64 0,.string ⟨#[]⟩],.bool false]) (by simp [results,results73,go_sem,p0,p1,p2,p3,p4,p5]) rfl HE
 |true=>
  have HPM:Hid (parseM s.data.toList=match readM (kindL a.data.toList) b.data.toList with |some o=>if rightM o then some o else none |none=>none):=hid (by unfold parseM;rw [hc];rfl);have HK:=hid (Jtu m a w3 HE3.out);obtain⟨k,hk⟩:=words.nm (kindL a.data.toList);rw [←hk] at HK HPM;have HR:=hid (Jfx m k b w3 (by omega) HE3.out);have HX3:=hid hx3;have HB3:=hid hw3;clear hk hc hz hx3 hw3 hb3 HC;go_wp2_with fail
  refine HK.out.mono ?_;rintro e w4 ⟨rfl,rfl⟩;clear HK;go_wp2_with fail
  refine HR.out.mono ?_;rintro e w5 ⟨⟨p,o,n,i,g,f,rfl,hf⟩,hb5⟩;have hx5:=(hb5.block _ (lt_of_some HX3.out)).trans HX3.out;have hw5:=HB3.out.trans (hb5.mono HB3.out.size);have d0:w5.cell? ⟨w.heap.size,0,none⟩=some (.int .i64 0):=Jaa hx5 0;have d1:w5.cell? ⟨w.heap.size,1,none⟩=some (.string ⟨#[]⟩):=Jaa hx5 1;have d2:w5.cell? ⟨w.heap.size,2,none⟩=some (.int .i64 0):=Jaa hx5 2;have d3:w5.cell? ⟨w.heap.size,3,none⟩=some (.int .i64 0):=Jaa hx5 3;have d4:w5.cell? ⟨w.heap.size,4,none⟩=some (.int .i64 0):=Jaa hx5 4;have d5:w5.cell? ⟨w.heap.size,5,none⟩=some (.string ⟨#[]⟩):=Jaa hx5 5;have z0:=Jab hx5 0;have z1:=Jab hx5 1;have z2:=Jab hx5 2;have z3:=Jab hx5 3;have z4:=Jab hx5 4;have z5:=Jab hx5 5;have ho6:=over6 (u0:= .int .i64 k) (u1:= .string p) (u2:= .int .i64 o) (u3:= .int .i64 n) (u4:= .int .i64 i) (u5:= .string g) hx5;have hb6:=below6 hw5 (Nat.le_refl w.heap.size) (.int .i64 k) (.string p) (.int .i64 o) (.int .i64 n) (.int .i64 i) (.string g);obtain⟨W6,hW6⟩:=words.nm (set6 w5 w.heap.size (.int .i64 k) (.string p) (.int .i64 o) (.int .i64 n) (.int .i64 i) (.string g));rw [←hW6] at ho6 hb6;have hsz:w5.heap.size=W6.heap.size:=by rw [hW6];simp [set6]
  have HE6:Hid (Env m W6):=hid (HEw.out.later hb6);have HW6:Hid ((((((w5.setCell ⟨w.heap.size,0,none⟩ (.int .i64 k)).setCell ⟨w.heap.size,1,none⟩ (.string p)).setCell ⟨w.heap.size,2,none⟩ (.int .i64 o)).setCell ⟨w.heap.size,3,none⟩ (.int .i64 n)).setCell ⟨w.heap.size,4,none⟩ (.int .i64 i)).setCell ⟨w.heap.size,5,none⟩ (.string g)=W6):=hid (by rw [hW6];rfl);have HF:=hid hf;have HX6:=hid ho6;have HB6:=hid hb6;clear hW6 hsz hf hx5 hw5 hb5 ho6 hb6 HR;unfold opV;go_upto_region 5 with fail
  rw [HW6.out];clear HW6 d0 d1 d2 d3 d4 d5 z0 z1 z2 z3 z4 z5;have hx6:=HX6.out;have d0:W6.cell? ⟨w.heap.size,0,none⟩=some (.int .i64 k):=Jaa hx6 0;have d1:W6.cell? ⟨w.heap.size,1,none⟩=some (.string p):=Jaa hx6 1;have d2:W6.cell? ⟨w.heap.size,2,none⟩=some (.int .i64 o):=Jaa hx6 2;have d3:W6.cell? ⟨w.heap.size,3,none⟩=some (.int .i64 n):=Jaa hx6 3;have d4:W6.cell? ⟨w.heap.size,4,none⟩=some (.int .i64 i):=Jaa hx6 4;have d5:W6.cell? ⟨w.heap.size,5,none⟩=some (.string g):=Jaa hx6 5;have z0:=Jab hx6 0;have z1:=Jab hx6 1;have z2:=Jab hx6 2;have z3:=Jab hx6 3;have z4:=Jab hx6 4;have z5:=Jab hx6 5;rcases HF.out with⟨rfl,hrd,hfit⟩ |⟨rfl,hrd⟩
  ·have HRg:=hid (Jgb m k p o n i g W6 HE6.out)
   have HRd:=hid hrd;have HFt:=hid hfit;clear hrd hfit HF hx6;unfold opV at HRg;cases hrt:rightM (opM k p o n i g) with
   |false=>
    rw [hrt] at HRg;have HN:Hid (parseM s.data.toList=none):=hid (by rw [HPM.out,HRd.out];simp only [hrt];rfl);clear hrt;go_wp2_with fail
    refine HRg.out.mono ?_;rintro e w7 ⟨rfl,hb7⟩;have hx7:=(hb7.block _ (lt_of_some HX6.out)).trans HX6.out;have hw7:=HB6.out.trans (hb7.mono HB6.out.size);have HP:=hid (Jp1 (s:=s) hw7 (Nat.le_refl _) hx7 HN.out);have e0:w7.cell? ⟨w.heap.size,0,none⟩=some (.int .i64 k):=Jaa hx7 0;have e1:w7.cell? ⟨w.heap.size,1,none⟩=some (.string p):=Jaa hx7 1;have e2:w7.cell? ⟨w.heap.size,2,none⟩=some (.int .i64 o):=Jaa hx7 2;have e3:w7.cell? ⟨w.heap.size,3,none⟩=some (.int .i64 n):=Jaa hx7 3;have e4:w7.cell? ⟨w.heap.size,4,none⟩=some (.int .i64 i):=Jaa hx7 4;have e5:w7.cell? ⟨w.heap.size,5,none⟩=some (.string g):=Jaa hx7 5;have y0:=Jab hx7 0;have y1:=Jab hx7 1;have y2:=Jab hx7 2;have y3:=Jab hx7 3;have y4:=Jab hx7 4;have y5:=Jab hx7 5;clear hx7 hw7 hb7 HRg;go_wp2_with fail
    obtain⟨p0,p1,p2,p3,p4,p5,HE⟩:=HP.out _ rfl;unfold set6 at p0 p1 p2 p3 p4 p5 HE;exact bodyPost_ret (v:= .tuple #[.agg #[.int .i64 0,.string ⟨#[]⟩,.int .i64 0,.int .i64 0,.int .i64 0,.string ⟨#[]⟩],.bool false]) (by simp [results,results73,go_sem,p0,p1,p2,p3,p4,p5]) rfl HE
   |true=>
    rw [hrt] at HRg;have HN:Hid (parseM s.data.toList=some (opM k p o n i g)):=hid (by rw [HPM.out,HRd.out];simp only [hrt];rfl);clear hrt;go_wp2_with fail
    refine HRg.out.mono ?_;rintro e w7 ⟨rfl,hb7⟩;have hx7:=(hb7.block _ (lt_of_some HX6.out)).trans HX6.out;have hw7:=HB6.out.trans (hb7.mono HB6.out.size);have HP:=hid (Jxh (s:=s) hw7 (Nat.le_refl _) hx7 k p o n i g HN.out HFt.out);have e0:w7.cell? ⟨w.heap.size,0,none⟩=some (.int .i64 k):=Jaa hx7 0;have e1:w7.cell? ⟨w.heap.size,1,none⟩=some (.string p):=Jaa hx7 1;have e2:w7.cell? ⟨w.heap.size,2,none⟩=some (.int .i64 o):=Jaa hx7 2;have e3:w7.cell? ⟨w.heap.size,3,none⟩=some (.int .i64 n):=Jaa hx7 3;have e4:w7.cell? ⟨w.heap.size,4,none⟩=some (.int .i64 i):=Jaa hx7 4;have e5:w7.cell? ⟨w.heap.size,5,none⟩=some (.string g):=Jaa hx7 5;have y0:=Jab hx7 0;have y1:=Jab hx7 1;have y2:=Jab hx7 2;have y3:=Jab hx7 3;have y4:=Jab hx7 4;have y5:=Jab hx7 5;clear hx7 hw7 hb7 HRg;go_wp2_with fail
    obtain⟨p0,p1,p2,p3,p4,p5,HE⟩:=HP.out _ rfl;unfold set6 at p0 p1 p2 p3 p4 p5 HE;exact bodyPost_ret (v:= .tuple #[.agg #[.int .i64 k,.string p,.int .i64 o,.int .i64 n,.int .i64 i,.string g],.bool true]) (by simp [results,results73,go_sem,p0,p1,p2,p3,p4,p5]) rfl HE
  ·have HP:=hid (Jp1 (s:=s) HB6.out (Nat.le_refl _) hx6 (by rw [HPM.out,hrd]))
   clear hx6 hrd;go_wp2_with fail
   obtain⟨p0,p1,p2,p3,p4,p5,HE⟩:=HP.out _ rfl;unfold set6 at p0 p1 p2 p3 p4 p5 HE;exact bodyPost_ret (v:= .tuple #[.agg #[.int .i64 0,.string ⟨#[]⟩,.int .i64 0,.int .i64 0,.int .i64 0,.string ⟨#[]⟩],.bool false]) (by simp [results,results73,go_sem,p0,p1,p2,p3,p4,p5]) rfl HE

theorem Jyw {k o n i:Int} {p g:ByteArray} (h:10∈p.data.toList):onlyM (opM k p o n i g)=false:=by
 unfold onlyM opM;simp only;rw [decide_eq_true h];rfl
theorem Jm8 (s:ByteArray) (k:Nat) (h:k<s.size):s[k]∈s.data.toList:=by
 have h1:=Ja7 s k h;have h2:s[k]∈s.data.toList.take (k+1):=by rw [h1];simp
 exact List.mem_of_mem_take h2
def AnsB (b:Bool) (w:World) (e:Ending) (w':World):Prop:=e= .returned (.bool b)∧Below w.heap.size w w'
end Go.Proofs.YtekekhgjobahaaaGreatDoor.cal
