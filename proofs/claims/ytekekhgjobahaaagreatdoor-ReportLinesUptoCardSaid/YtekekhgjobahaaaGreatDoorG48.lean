import Derived.Test.YtekekhgjobahaaaGreatDoorG47
set_option maxHeartbeats 12800000
set_option maxRecDepth 100000
open Go.Lib (hid)
open Go.Proofs.Tryz
namespace Go.Proofs.YtekekhgjobahaaaGreatDoor.cal
open Go.RowKit words

theorem Jbl (l:List UInt8):(hexL l).length≤2*l.length+1:=by
 unfold hexL;split
 ·simp
 ·rw [Jbs];omega
theorem Je4 (m:Int) (k:Int) (p:ByteArray) (o n i:Int) (g:ByteArray) (w:World) (hE:Env m w):Calls prog 112 #[opV k p o n i g] w fun e w'=>e= .returned (.bool (rightM (opM k p o n i g)))∧Below w.heap.size w w':=by
 obtain⟨W1,hW1⟩:=words.nm (w.alloc (.cells #[.int .i64 k,.string p,.int .i64 o,.int .i64 n,.int .i64 i,.string g] 55));have hb1:=words.b1 hW1;have hx:W1.heap[w.heap.size]?=some (opB k p o n i g):=by rw [hW1];exact heap_alloc_new w _
 have HE:=hid (hE.later hb1);have HB1:=hid hb1;have HW:=hid hW1.symm;have HS:Hid (∀w':World,Below W1.heap.size W1 w'→(w'.cell? ⟨w.heap.size,0,none⟩=some (.int .i64 k)∧w'.cell? ⟨w.heap.size,1,none⟩=some (.string p)∧w'.cell? ⟨w.heap.size,2,none⟩=some (.int .i64 o)∧w'.cell? ⟨w.heap.size,3,none⟩=some (.int .i64 n)∧w'.cell? ⟨w.heap.size,4,none⟩=some (.int .i64 i)∧w'.cell? ⟨w.heap.size,5,none⟩=some (.string g))):=hid fun w' hb=>by
  have e:=(hb.block _ (lt_of_some hx)).trans hx;unfold opB at e;exact⟨Jaa e 0,Jaa e 1,Jaa e 2,Jaa e 3,Jaa e 4,Jaa e 5⟩
 have HBv:Hid (Below W1.heap.size W1 W1.drew):=hid (Below.refl _ _).drew;have HWd:Hid (∀w':World,Below W1.heap.size W1 w'→Calls prog 59 #[.int .i64 k] w' fun e w''=>(∃r:ByteArray,e= .returned (.string r)∧r.data.toList=wordL k)∧Below W1.heap.size W1 w''):=hid fun w' hb=>(Jkb m k w' (HE.out.later hb)).mono fun e w'' ⟨h1,h2⟩=>⟨h1,hb.trans (h2.mono hb.size)⟩
 have HTd:Hid (∀w':World,Below W1.heap.size W1 w'→Calls prog 143 #[.agg #[.int .i64 k,.string p,.int .i64 o,.int .i64 n,.int .i64 i,.string g]] w' fun e w''=>(∃p' o' n' i' g',e= .returned (.agg #[.int .i64 k,.string p',.int .i64 o',.int .i64 n',.int .i64 i',.string g'])∧opM k p' o' n' i' g'=toldM (opM k p o n i g))∧Below W1.heap.size W1 w''):=hid fun w' hb=>(Jk2 k p o n i g w').mono fun e w'' ⟨h1,h2⟩=>⟨h1,hb.trans (h2.mono hb.size)⟩
 have HRM:Hid (rightM (opM k p o n i g)=(decide (wordL k≠[])&&(!decide (10∈p.data.toList))&&decide (opM k p o n i g=toldM (opM k p o n i g)))):=hid rfl;clear hW1 hb1 hx hE;unfold opV;go_enter func112,ntmps112
 go_upto_region 1 with fail
 rw [HW.out];clear HW;by_cases hw:wordL k=[]
 ·have HRF:Hid (rightM (opM k p o n i g)=false):=hid (by rw [HRM.out];simp [hw])
  have HWe:=hid hw;clear hw;refine wp_region_held_drew (S:=fun w'=>(w'.cell? ⟨w.heap.size,0,none⟩=some (.int .i64 k)∧w'.cell? ⟨w.heap.size,1,none⟩=some (.string p)∧w'.cell? ⟨w.heap.size,2,none⟩=some (.int .i64 o)∧w'.cell? ⟨w.heap.size,3,none⟩=some (.int .i64 n)∧w'.cell? ⟨w.heap.size,4,none⟩=some (.int .i64 i)∧w'.cell? ⟨w.heap.size,5,none⟩=some (.string g))) (by kernel_rfl) (HS.out _ HBv.out) (fun hHeld=>?_);refine words.tk 0 3 (v:=?_) ?_ ?_
  rotate_left 1
  ·intro _ h;(try dsimp only at h);go_simp;(try with_reducible rfl)
  try simp only [words.pt]
  refine words.tk 1 4 (v:=?_) ?_ ?_
  rotate_left 1
  ·intro _ h;(try dsimp only at h);go_simp;(try with_reducible rfl)
  try simp only [words.pt]
  refine wpAnyH_ready (rs:=[2]) (by kernel_rfl) (by simp) (.cons rfl (fun K hK=>?_) .nil);go_simp
  go_at_call 59
  refine (HWd.out _ HBv.out).mono ?_;rintro en v1 ⟨⟨r,rfl,hr⟩,hv1⟩;have f0:r.toList.isEmpty=true:=by rw [to_list,hr,HWe.out];rfl
  clear hHeld;refine hK.out _ _ (HS.out _ hv1) (fun hHeld=>?_);clear hK;refine words.tk 3 6 (v:=?_) ?_ ?_
  rotate_left 1
  ·intro _ h;(try dsimp only at h);go_simp;(try with_reducible rfl)
  try simp only [words.pt]
  refine words.tk 4 7 (v:=?_) ?_ ?_
  rotate_left 1
  ·intro _ h;(try dsimp only at h);go_simp;(try with_reducible rfl)
  try simp only [words.pt]
  refine wpAnyH_take (i:=5) (oi:=⟨some 8,_,_,_,_,_⟩) (v:=undef) rfl (by kernel_rfl) (by kernel_rfl) (by kernel_rfl) (fun _ _ _ h=>h) (Or.inr ⟨by kernel_rfl,rfl⟩) (by assumption) ?_;try simp only [words.pt]
  refine wpAnyH_take (i:=6) (oi:=⟨some 9,_,_,_,_,_⟩) (v:=undef) rfl (by kernel_rfl) (by kernel_rfl) (by kernel_rfl) (fun _ _ _ h=>h) (Or.inr ⟨by kernel_rfl,rfl⟩) (by assumption) ?_;try simp only [words.pt]
  refine wpAnyH_take (i:=7) (oi:=⟨some 10,_,_,_,_,_⟩) (v:=undef) rfl (by kernel_rfl) (by kernel_rfl) (by kernel_rfl) (fun _ _ _ h=>h) (Or.inr ⟨by kernel_rfl,rfl⟩) (by assumption) ?_;try simp only [words.pt]
  refine wpAnyH_take (i:=8) (oi:=⟨some 11,_,_,_,_,_⟩) (v:=undef) rfl (by kernel_rfl) (by kernel_rfl) (by kernel_rfl) (fun _ _ _ h=>h) (Or.inr ⟨by kernel_rfl,rfl⟩) (by assumption) ?_;try simp only [words.pt]
  refine words.tk 9 12 (v:=?_) ?_ ?_
  rotate_left 1
  ·intro _ h;(try dsimp only at h);go_simp;(try with_reducible rfl)
  try simp only [words.pt]
  refine words.tk 10 13 (v:=?_) ?_ ?_
  rotate_left 1
  ·intro _ h;(try dsimp only at h);go_simp;(try with_reducible rfl)
  try simp only [words.pt]
  refine wpAnyH_take (i:=11) (oi:=⟨some 14,_,_,_,_,_⟩) (v:=undef) rfl (by kernel_rfl) (by kernel_rfl) (by kernel_rfl) (fun _ _ _ h=>h) (Or.inr ⟨by kernel_rfl,rfl⟩) (by assumption) ?_;try simp only [words.pt]
  refine wpAnyH_take (i:=12) (oi:=⟨some 15,_,_,_,_,_⟩) (v:=undef) rfl (by kernel_rfl) (by kernel_rfl) (by kernel_rfl) (fun _ _ _ h=>h) (Or.inr ⟨by kernel_rfl,rfl⟩) (by assumption) ?_;try simp only [words.pt]
  refine wpAnyH_take (i:=13) (oi:=⟨some 16,_,_,_,_,_⟩) (v:=undef) rfl (by kernel_rfl) (by kernel_rfl) (by kernel_rfl) (fun _ _ _ h=>h) (Or.inr ⟨by kernel_rfl,rfl⟩) (by assumption) ?_;try simp only [words.pt]
  refine wpAnyH_take (i:=14) (oi:=⟨some 17,_,_,_,_,_⟩) (v:=undef) rfl (by kernel_rfl) (by kernel_rfl) (by kernel_rfl) (fun _ _ _ h=>h) (Or.inr ⟨by kernel_rfl,rfl⟩) (by assumption) ?_;try simp only [words.pt]
  refine words.tk 15 18 (v:=?_) ?_ ?_
  rotate_left 1
  ·intro _ h;(try dsimp only at h);go_simp;(try with_reducible rfl)
  try simp only [words.pt]
  refine words.tk 16 2 (v:=?_) ?_ ?_
  rotate_left 1
  ·intro _ h;(try dsimp only at h);go_simp;(try with_reducible rfl)
  try simp only [words.pt]
  refine wpAnyH_done (by kernel_rfl) ?_ _;clear hHeld hr HS HBv HWd HTd;go_wp2_with fail
  go_ret
  exact⟨by rw [HRF.out];rfl,HB1.out.trans (hv1.mono HB1.out.size)⟩
 have HWe:=hid hw;have HCt0:Hid (∀w':World,Calls prog 142 #[.string p,.string ⟨#[10]⟩] w' fun e w''=>e= .returned (.bool (decide (10∈p.data.toList)))∧w''=w'):=hid fun w'=>contains10 p w';by_cases h10:10∈p.data.toList
 ·have hd:decide (10∈p.data.toList)=true:=decide_eq_true h10
  have HRF:Hid (rightM (opM k p o n i g)=false):=hid (by rw [HRM.out,hd];simp);have HCt:=HCt0;rw [hd] at HCt;clear hw h10 hd HCt0;refine wp_region_held_drew (S:=fun w'=>(w'.cell? ⟨w.heap.size,0,none⟩=some (.int .i64 k)∧w'.cell? ⟨w.heap.size,1,none⟩=some (.string p)∧w'.cell? ⟨w.heap.size,2,none⟩=some (.int .i64 o)∧w'.cell? ⟨w.heap.size,3,none⟩=some (.int .i64 n)∧w'.cell? ⟨w.heap.size,4,none⟩=some (.int .i64 i)∧w'.cell? ⟨w.heap.size,5,none⟩=some (.string g))) (by kernel_rfl) (HS.out _ HBv.out) (fun hHeld=>?_);refine words.tk 0 3 (v:=?_) ?_ ?_
  rotate_left 1
  ·intro _ h;(try dsimp only at h);go_simp;(try with_reducible rfl)
  try simp only [words.pt]
  refine words.tk 1 4 (v:=?_) ?_ ?_
  rotate_left 1
  ·intro _ h;(try dsimp only at h);go_simp;(try with_reducible rfl)
  try simp only [words.pt]
  refine wpAnyH_ready (rs:=[2]) (by kernel_rfl) (by simp) (.cons rfl (fun K hK=>?_) .nil);go_simp
  go_at_call 59
  refine (HWd.out _ HBv.out).mono ?_;rintro en v1 ⟨⟨r,rfl,hr⟩,hv1⟩;have f0:r.toList.isEmpty=false:=by rw [to_list,hr];simpa using HWe.out
  clear hHeld;refine hK.out _ _ (HS.out _ hv1) (fun hHeld=>?_);clear hK;refine words.tk 3 6 (v:=?_) ?_ ?_
  rotate_left 1
  ·intro _ h;(try dsimp only at h);go_simp;(try with_reducible rfl)
  try simp only [words.pt]
  refine words.tk 4 7 (v:=?_) ?_ ?_
  rotate_left 1
  ·intro _ h;(try dsimp only at h);go_simp;(try with_reducible rfl)
  try simp only [words.pt]
  refine words.tk 5 8 (v:=?_) ?_ ?_
  rotate_left 1
  ·intro _ h;(try dsimp only at h);go_simp;(try with_reducible rfl)
  try simp only [words.pt]
  refine words.tk 6 9 (v:=?_) ?_ ?_
  rotate_left 1
  ·intro _ h;(try dsimp only at h);go_simp;(try with_reducible rfl)
  try simp only [words.pt]
  refine wpAnyH_ready (rs:=[7]) (by kernel_rfl) (by simp) (.cons rfl (fun K hK=>?_) .nil);go_simp
  go_at_call 142
  refine (HCt.out _).mono ?_;rintro en v2 ⟨rfl,rfl⟩;clear hHeld;refine hK.out _ _ (HS.out _ hv1) (fun hHeld=>?_);clear hK;refine words.tk 8 11 (v:=?_) ?_ ?_
  rotate_left 1
  ·intro _ h;(try dsimp only at h);go_simp;(try with_reducible rfl)
  try simp only [words.pt]
  refine words.tk 9 12 (v:=?_) ?_ ?_
  rotate_left 1
  ·intro _ h;(try dsimp only at h);go_simp;(try with_reducible rfl)
  try simp only [words.pt]
  refine words.tk 10 13 (v:=?_) ?_ ?_
  rotate_left 1
  ·intro _ h;(try dsimp only at h);go_simp;(try with_reducible rfl)
  try simp only [words.pt]
  refine wpAnyH_take (i:=11) (oi:=⟨some 14,_,_,_,_,_⟩) (v:=undef) rfl (by kernel_rfl) (by kernel_rfl) (by kernel_rfl) (fun _ _ _ h=>h) (Or.inr ⟨by kernel_rfl,rfl⟩) (by assumption) ?_;try simp only [words.pt]
  refine wpAnyH_take (i:=12) (oi:=⟨some 15,_,_,_,_,_⟩) (v:=undef) rfl (by kernel_rfl) (by kernel_rfl) (by kernel_rfl) (fun _ _ _ h=>h) (Or.inr ⟨by kernel_rfl,rfl⟩) (by assumption) ?_;try simp only [words.pt]
  refine wpAnyH_take (i:=13) (oi:=⟨some 16,_,_,_,_,_⟩) (v:=undef) rfl (by kernel_rfl) (by kernel_rfl) (by kernel_rfl) (fun _ _ _ h=>h) (Or.inr ⟨by kernel_rfl,rfl⟩) (by assumption) ?_;try simp only [words.pt]
  refine wpAnyH_take (i:=14) (oi:=⟨some 17,_,_,_,_,_⟩) (v:=undef) rfl (by kernel_rfl) (by kernel_rfl) (by kernel_rfl) (fun _ _ _ h=>h) (Or.inr ⟨by kernel_rfl,rfl⟩) (by assumption) ?_;try simp only [words.pt]
  refine words.tk 15 18 (v:=?_) ?_ ?_
  rotate_left 1
  ·intro _ h;(try dsimp only at h);go_simp;(try with_reducible rfl)
  try simp only [words.pt]
  refine words.tk 16 2 (v:=?_) ?_ ?_
  rotate_left 1
  ·intro _ h;(try dsimp only at h);go_simp;(try with_reducible rfl)
  try simp only [words.pt]
  refine wpAnyH_done (by kernel_rfl) ?_ _;clear hHeld hr HS HBv HWd HTd;go_wp2_with fail
  go_ret
  exact⟨by rw [HRF.out];rfl,HB1.out.trans (hv1.mono HB1.out.size)⟩
 have hd:decide (10∈p.data.toList)=false:=decide_eq_false h10;have HRT:Hid (rightM (opM k p o n i g)=decide (opM k p o n i g=toldM (opM k p o n i g))):=hid (by rw [HRM.out,hd];simp [hw]);have heq:=Jm7;have HCt:=HCt0;rw [hd] at HCt;clear hw h10 hd HCt0;refine wp_region_held_drew (S:=fun w'=>(w'.cell? ⟨w.heap.size,0,none⟩=some (.int .i64 k)∧w'.cell? ⟨w.heap.size,1,none⟩=some (.string p)∧w'.cell? ⟨w.heap.size,2,none⟩=some (.int .i64 o)∧w'.cell? ⟨w.heap.size,3,none⟩=some (.int .i64 n)∧w'.cell? ⟨w.heap.size,4,none⟩=some (.int .i64 i)∧w'.cell? ⟨w.heap.size,5,none⟩=some (.string g))) (by kernel_rfl) (HS.out _ HBv.out) (fun hHeld=>?_);refine words.tk 0 3 (v:=?_) ?_ ?_
 rotate_left 1
 ·intro _ h;(try dsimp only at h);go_simp;(try with_reducible rfl)
 try simp only [words.pt]
 refine words.tk 1 4 (v:=?_) ?_ ?_
 rotate_left 1
 ·intro _ h;(try dsimp only at h);go_simp;(try with_reducible rfl)
 try simp only [words.pt]
 refine wpAnyH_ready (rs:=[2]) (by kernel_rfl) (by simp) (.cons rfl (fun K hK=>?_) .nil);go_simp
 go_at_call 59
 refine (HWd.out _ HBv.out).mono ?_;rintro en v1 ⟨⟨r,rfl,hr⟩,hv1⟩;have f0:r.toList.isEmpty=false:=by rw [to_list,hr];simpa using HWe.out
 clear hHeld;refine hK.out _ _ (HS.out _ hv1) (fun hHeld=>?_);clear hK;refine words.tk 3 6 (v:=?_) ?_ ?_
 rotate_left 1
 ·intro _ h;(try dsimp only at h);go_simp;(try with_reducible rfl)
 try simp only [words.pt]
 refine words.tk 4 7 (v:=?_) ?_ ?_
 rotate_left 1
 ·intro _ h;(try dsimp only at h);go_simp;(try with_reducible rfl)
 try simp only [words.pt]
 refine words.tk 5 8 (v:=?_) ?_ ?_
 rotate_left 1
 ·intro _ h;(try dsimp only at h);go_simp;(try with_reducible rfl)
 try simp only [words.pt]
 refine words.tk 6 9 (v:=?_) ?_ ?_
 rotate_left 1
 ·intro _ h;(try dsimp only at h);go_simp;(try with_reducible rfl)
 try simp only [words.pt]
 refine wpAnyH_ready (rs:=[7]) (by kernel_rfl) (by simp) (.cons rfl (fun K hK=>?_) .nil);go_simp
 go_at_call 142
 refine (HCt.out _).mono ?_;rintro en v2 ⟨rfl,rfl⟩;clear hHeld;refine hK.out _ _ (HS.out _ hv1) (fun hHeld=>?_);clear hK;refine words.tk 8 11 (v:=?_) ?_ ?_
 rotate_left 1
 ·intro _ h;(try dsimp only at h);go_simp;(try with_reducible rfl)
 try simp only [words.pt]
 refine words.tk 9 12 (v:=?_) ?_ ?_
 rotate_left 1
 ·intro _ h;(try dsimp only at h);go_simp;(try with_reducible rfl)
 try simp only [words.pt]
 refine words.tk 10 13 (v:=?_) ?_ ?_
 rotate_left 1
 ·intro _ h;(try dsimp only at h);go_simp;(try with_reducible rfl)
 try simp only [words.pt]
 refine words.tk 11 14 (v:=?_) ?_ ?_
 rotate_left 1
 ·intro _ h;(try dsimp only at h);go_simp;(try with_reducible rfl)
 try simp only [words.pt]
 refine words.tk 12 15 (v:=?_) ?_ ?_
 rotate_left 1
 ·intro _ h;(try dsimp only at h);go_simp;(try with_reducible rfl)
 try simp only [words.pt]
 refine wpAnyH_ready (rs:=[13]) (by kernel_rfl) (by simp) (.cons rfl (fun K hK=>?_) .nil);go_simp
 go_at_call 143
 refine (HTd.out _ hv1).mono ?_;rintro en v3 ⟨⟨p',o',n',i',g',rfl,hm⟩,hv3⟩;clear hHeld;refine hK.out _ _ (HS.out _ hv3) (fun hHeld=>?_);clear hK;refine words.tk 14 17 (v:=?_) ?_ ?_
 rotate_left 1
 ·intro _ h;(try dsimp only at h);go_simp;(try with_reducible rfl)
 try simp only [words.pt]
 refine words.tk 15 18 (v:=?_) ?_ ?_
 rotate_left 1
 ·intro _ h;(try dsimp only at h);go_simp;(try with_reducible rfl)
 try simp only [words.pt]
 refine words.tk 16 2 (v:=?_) ?_ ?_
 rotate_left 1
 ·intro _ h;(try dsimp only at h);go_simp;(try with_reducible rfl)
 try simp only [words.pt]
 refine wpAnyH_done (by kernel_rfl) ?_ _;clear hHeld hr HS HBv HWd HTd;have HM:=hid hm;clear hm;go_wp2_with fail
 go_ret
 exact⟨by rw [HRT.out,←HM.out];rfl,HB1.out.trans (hv3.mono HB1.out.size)⟩

def resV (e k z h d:Int) (t:ByteArray) (A:Option Addr) (N:List ByteArray) (c:Nat) (en:Bool):Value:= .agg #[.int .i64 e,.int .i64 k,.int .i64 z,.int .i64 h,.int .i64 d,.string t,.slice A N.length c,.bool en]
def resB (e k z h d:Int) (t:ByteArray) (A:Option Addr) (N:List ByteArray) (c:Nat) (en:Bool):Obj:= .cells #[.int .i64 e,.int .i64 k,.int .i64 z,.int .i64 h,.int .i64 d,.string t,.slice A N.length c,.bool en] 57 (0,0)
def endL:List UInt8:=[101,110,100]
def pageM (en:Bool) (N:List (List UInt8)):List (List UInt8):=(if en then [endL] else [])++N.map hexL
def Few (N:List ByteArray):Prop:=N.length≤100∧∀x∈N,x.size≤1048576
theorem Jbm (en:Bool) (N:List (List UInt8)) (x:List UInt8):pageM en (N++[x])=pageM en N++[hexL x]:=by simp [pageM,List.append_assoc]
theorem Jay {α:Type} {L:List α} {i:Nat} {x:α} (h:L[i]?=some x):L.take (i+1)=L.take i++[x]:=by
 obtain⟨hi,rfl⟩:=List.getElem?_eq_some_iff.1 h;exact List.take_succ_eq_append_getElem hi
structure Got (w:World) (L:List (List UInt8)) (v:Value) (Q:List ByteArray) (wr:World):Prop where
 row:wr.ownsRow w.heap.size 9 1 v Q.length (Q.map Value.string)
 data:dataL Q=L
 low:Below w.heap.size w wr
theorem Got.later {w:World} {L:List (List UInt8)} {v:Value} {Q:List ByteArray} {wr w':World} (h:Got w L v Q wr) (hb:Below wr.heap.size wr w'):Got w L v Q w':=⟨Jac h.row hb,h.data,h.low.trans (hb.mono h.low.size)⟩
theorem Got.val {w:World} {L:List (List UInt8)} {v:Value} {Q:List ByteArray} {wr:World} (h:Got w L v Q wr):∃A c,v= .slice A Q.length c∧Sl wr A Q∧(A=none→Q.length=0∧c=0):=by
 rcases h.row.2 with⟨rfl,h0⟩ |⟨g,cap,cur,rfl,_,hg,_⟩
 ·refine⟨none,0,by rw [h0],fun i x hx=>?_,fun _=>⟨h0,rfl⟩⟩
  have:=(List.getElem?_eq_some_iff.1 hx).1;omega
 ·refine⟨_,_,rfl,fun i x hx=>⟨g,0,rfl,lt_of_some hg,?_⟩,fun h=>by cases h⟩
  have:=h.row.cells (g:=g) rfl i (.string x) (by rw [List.getElem?_map,hx];rfl);rw [add_place] at this;exact this
theorem Got.more {w:World} {L:List (List UInt8)} {v v':Value} {Q:List ByteArray} {wr w1 w2:World} (h:Got w L v Q wr) (hb:Below wr.heap.size wr w1) (r:ByteArray) (hg:w1.grownBy w2 v.ownBlock) (ho:w2.ownsRow w.heap.size 9 1 v' (Q.length+1) (Q.map Value.string++[.string r])):Got w (L++[r.data.toList]) v' (Q++[r]) w2:=by
 have h1:=h.later hb;refine⟨?_,by rw [←h.data];simp [dataL],keep_grown h1.low h1.row hg (Nat.le_refl _)⟩;rw [List.length_append,List.map_append];exact ho
theorem Jks (e k z h d:Int) (t:ByteArray) (A:Option Addr) (N:List ByteArray) (c:Nat) (en:Bool) (w:World) (hN:Sl w A N) (hF:Few N):
  Calls prog 97 #[resV e k z h d t A N c en] w fun e w'=>∃v Q,e= .returned v∧Got w (pageM en (dataL N)) v Q w':=by
 obtain⟨i0,hi,hz0,hz1,hz2⟩:=info_parts info9;obtain⟨W1,hW1⟩:=words.nm (w.alloc (.cells #[.int .i64 e,.int .i64 k,.int .i64 z,.int .i64 h,.int .i64 d,.string t,.slice A N.length c,.bool en] 57));have hb1:=words.b1 hW1;have hx:W1.heap[w.heap.size]?=some (resB e k z h d t A N c en):=by rw [hW1];exact heap_alloc_new w _
 have HX:=hid hx;unfold resB at hx;have HS:=hid hN;have HFw:=hid hF;have HB1:=hid hb1;have HW:=hid hW1.symm;have c7:W1.cell? ⟨w.heap.size,7,none⟩=some (.bool en):=Jaa hx 7;have c6:W1.cell? ⟨w.heap.size,6,none⟩=some (.slice A N.length c):=Jaa hx 6;have hl:N.length≤100:=hF.1;clear hW1 hb1 hx hN hF;unfold resV;go_enter func97,ntmps97
 go_upto_region 1 with fail
 rw [HW.out];clear HW;cases en with
 |false=>
  have H0:Hid (Got w (pageM false (dataL (N.take 0))) (.slice none 0 0) [] W1):=hid ⟨World.ownsRow_nil _ _ _ _,rfl,HB1.out⟩;go_wp2_with fail
  go_loopw [14,3] (fun v14 v3 wr=>∃(j:Nat) (Q:List ByteArray),j≤N.length∧v14= .int .i64 (j:Int)∧Q.length≤j+1∧Hid (Got w (pageM false (dataL (N.take j))) v3 Q wr)) (fun v _ _=>N.length - (intOf v).toNat)
  case atStart=>exact⟨0,_,Nat.zero_le _,rfl,by simp,H0⟩
  case round=>
   clear H0;obtain⟨j,Q,hj,rfl,hq,hH⟩:=hrel;have j0:(0:Int)≤(j:Int):=by omega
   by_cases hjs:j<N.length
   ·have j1:(j:Int)<(N.length:Int):=by omega
    obtain⟨x,hxj⟩:∃x,N[j]?=some x:=⟨_,List.getElem?_eq_getElem hjs⟩
    obtain⟨b,off,hA,hb,hcx⟩:=(HS.out.later hH.out.low) j x hxj;subst hA;have HC:=hid (Jed x wr (by have:=HFw.out.2 x (List.mem_of_getElem? hxj);omega));have HXj:=hid (show pageM false (dataL (N.take (j+1)))=pageM false (dataL (N.take j))++[hexL x.data.toList] by rw [Jay hxj,dataL,List.map_append];exact Jbm _ _ _);obtain⟨A3,c3,rfl,_,_⟩:=hH.out.val;clear hxj hb;go_wp2_with fail
    refine HC.out.mono ?_;rintro en2 w3 ⟨⟨r,rfl,hr⟩,hb3⟩;have HG:=hid (hH.out.later hb3);have HO:=hid (fun o:Obj=>(Jac (HG.out.row) ((Below.refl w3.heap.size w3).alloc (Nat.le_refl _) o):(w3.alloc o).ownsRow w.heap.size 9 1 (.slice A3 Q.length c3) Q.length (Q.map Value.string)));have HR:=hid hr;have HZ:=hid HG.out.low.size;clear hr hb3 HC hH hcx;go_wp2_with (at_builtin;refine wpList_append_own _ rfl (.tmp 18) (.tmp 21) 27 rfl w.heap.size 9 i0 _ 1 16 underlying27 hi hz0 hz1 hz2 rfl (by decide) (.slice A3 Q.length c3) Q.length (Q.map Value.string) rfl (HO.out _) ⟨w3.heap.size,0,none⟩ 1 1 [.string r] rfl rfl (World.news_of_block (cs:=#[.string r]) (heap_alloc_new w3 _)) (by simp [Value.oneCell']) (by unfold maxLen;omega) (by omega) (by have:=HZ.out;simp;omega) ?_;intro v4 w4 hown4 hgrow4 _;have hg4:=HG.out.more ((Below.refl w3.heap.size w3).alloc (Nat.le_refl _) _) r hgrow4 hown4;obtain⟨A4,c4,rfl,_,_⟩:=hg4.val;rw [HR.out,←HXj.out] at hg4;have hlen4:(Q++[r]).length=Q.length+1:=(by simp);rw [hlen4] at hg4;clear hlen4;have H4:=hid hg4;clear hown4 hgrow4 hg4)
    go_wp2_with fail
    go_roundw
    case rel=>exact⟨j+1,Q++[r],by omega,by go_num,by rw [List.length_append];simp;omega,H4⟩
    case measure=>simp [intOf];omega
   ·obtain rfl:j=N.length:=by omega
    have j1:¬(N.length:Int)<(N.length:Int):=by omega
    have h1:=hH.out;rw [List.take_length] at h1;have HF:=hid h1;clear h1 hH;go_wp2_with fail
    go_ret
    exact⟨_,rfl,Q,HF.out⟩
 |true=>
  have HO:Hid (∀o:Obj,(W1.alloc o).ownsRow w.heap.size 9 1 (.slice none 0 0) 0 []):=hid fun o=>World.ownsRow_nil _ _ _ _;have hz:=HB1.out.size;have HXl:=hid (lt_of_some HX.out);go_wp2_with (at_builtin;refine wpList_append_own _ rfl (.tmp 8) (.tmp 9) 27 rfl w.heap.size 9 i0 _ 1 16 underlying27 hi hz0 hz1 hz2 rfl (by decide) (.slice none 0 0) 0 [] rfl (HO.out _) ⟨W1.heap.size,0,none⟩ 1 1 [.string ⟨#[101,110,100]⟩] rfl rfl (World.news_of_block (cs:=#[.string ⟨#[101,110,100]⟩]) (heap_alloc_new W1 _)) (by simp [Value.oneCell']) (by unfold maxLen;omega) (by omega) (by simp;omega) ?_;intro v2 w2 hown2 hgrow2 _;have hg2:=(⟨World.ownsRow_nil _ _ _ _,rfl,HB1.out⟩:Got w [] (.slice none 0 0) [] W1).more ((Below.refl W1.heap.size W1).alloc (Nat.le_refl _) _) ⟨#[101,110,100]⟩ hgrow2 hown2;have hk2:=(hgrow2.block w.heap.size (by have:=HXl.out;simp;omega) (by simp [Value.ownBlock])).trans ((Lib.alloc_old W1 _ w.heap.size HXl.out).trans HX.out);unfold resB at hk2;obtain⟨A2,c2,rfl,_,_⟩:=hg2.val;have e6:w2.cell? ⟨w.heap.size,6,none⟩=some (.slice A N.length c):=Jaa hk2 6;have H0:Hid (Got w (pageM true (dataL (N.take 0))) (.slice A2 1 c2) [⟨#[101,110,100]⟩] w2):=hid hg2;clear hown2 hgrow2 hg2 hk2 c6 c7 HO)
  go_wp2_with fail
  go_loopw [14,3] (fun v14 v3 wr=>∃(j:Nat) (Q:List ByteArray),j≤N.length∧v14= .int .i64 (j:Int)∧Q.length≤j+1∧Hid (Got w (pageM true (dataL (N.take j))) v3 Q wr)) (fun v _ _=>N.length - (intOf v).toNat)
  case atStart=>exact⟨0,_,Nat.zero_le _,rfl,by simp,H0⟩
  case round=>
   clear H0;obtain⟨j,Q,hj,rfl,hq,hH⟩:=hrel;have j0:(0:Int)≤(j:Int):=by omega
   by_cases hjs:j<N.length
   ·have j1:(j:Int)<(N.length:Int):=by omega
    obtain⟨x,hxj⟩:∃x,N[j]?=some x:=⟨_,List.getElem?_eq_getElem hjs⟩
    obtain⟨b,off,hA,hb,hcx⟩:=(HS.out.later hH.out.low) j x hxj;subst hA;have HC:=hid (Jed x wr (by have:=HFw.out.2 x (List.mem_of_getElem? hxj);omega));have HXj:=hid (show pageM true (dataL (N.take (j+1)))=pageM true (dataL (N.take j))++[hexL x.data.toList] by rw [Jay hxj,dataL,List.map_append];exact Jbm _ _ _);obtain⟨A3,c3,rfl,_,_⟩:=hH.out.val;clear hxj hb;go_wp2_with fail
    refine HC.out.mono ?_;rintro en2 w3 ⟨⟨r,rfl,hr⟩,hb3⟩;have HG:=hid (hH.out.later hb3);have HO:=hid (fun o:Obj=>(Jac (HG.out.row) ((Below.refl w3.heap.size w3).alloc (Nat.le_refl _) o):(w3.alloc o).ownsRow w.heap.size 9 1 (.slice A3 Q.length c3) Q.length (Q.map Value.string)));have HR:=hid hr;have HZ:=hid HG.out.low.size;clear hr hb3 HC hH hcx;go_wp2_with (at_builtin;refine wpList_append_own _ rfl (.tmp 18) (.tmp 21) 27 rfl w.heap.size 9 i0 _ 1 16 underlying27 hi hz0 hz1 hz2 rfl (by decide) (.slice A3 Q.length c3) Q.length (Q.map Value.string) rfl (HO.out _) ⟨w3.heap.size,0,none⟩ 1 1 [.string r] rfl rfl (World.news_of_block (cs:=#[.string r]) (heap_alloc_new w3 _)) (by simp [Value.oneCell']) (by unfold maxLen;omega) (by omega) (by have:=HZ.out;simp;omega) ?_;intro v4 w4 hown4 hgrow4 _;have hg4:=HG.out.more ((Below.refl w3.heap.size w3).alloc (Nat.le_refl _) _) r hgrow4 hown4;obtain⟨A4,c4,rfl,_,_⟩:=hg4.val;rw [HR.out,←HXj.out] at hg4;have hlen4:(Q++[r]).length=Q.length+1:=(by simp);rw [hlen4] at hg4;clear hlen4;have H4:=hid hg4;clear hown4 hgrow4 hg4)
    go_wp2_with fail
    go_roundw
    case rel=>exact⟨j+1,Q++[r],by omega,by go_num,by rw [List.length_append];simp;omega,H4⟩
    case measure=>simp [intOf];omega
   ·obtain rfl:j=N.length:=by omega
    have j1:¬(N.length:Int)<(N.length:Int):=by omega
    have h1:=hH.out;rw [List.take_length] at h1;have HF:=hid h1;clear h1 hH;go_wp2_with fail
    go_ret
    exact⟨_,rfl,Q,HF.out⟩

def ansM (q k z h d:Int) (t:List UInt8) (N:List (List UInt8)) (en:Bool):List (List UInt8):=
 if q=1 then [Lib.itoa k,Lib.itoa h] else if q=2 then [Lib.itoa k,Lib.itoa z] else if q=3∨q=4 then [hexL t] else if q=5∨q=8 then [Lib.itoa d] else if q=6 then pageM en N else []
def okL:List UInt8:=[111,107]
def errL:List UInt8:=[101,114,114,111,114]
def showM (q e k z h d:Int) (t:List UInt8) (N:List (List UInt8)) (en:Bool):List UInt8:=if e=0 then joinM (okL::ansM q k z h d t N en) else joinM [errL,Lib.itoa e]
structure ResFit (e k z h d:Int) (t:ByteArray) (N:List ByteArray):Prop where
 e:I64 e
 k:I64 k
 z:I64 z
 h:I64 h
 d:I64 d
 t:t.size≤10000
 N:Few N
def AnsOut (L:List (List UInt8)) (w:World) (e:Ending) (w':World):Prop:=
 (∃(A:Option Addr) (c:Nat) (Q:List ByteArray),e= .returned (.slice A Q.length c)∧dataL Q=L∧Sl w' A Q∧(A=none→Q.length=0∧c=0))∧Below w.heap.size w w'
theorem RestOut.ans {L:List (List UInt8)} {w w':World} {e:Ending} (h:RestOut L w e w'):AnsOut L w e w':=by
 obtain⟨⟨b,c,Q,h1,h2,h3⟩,h4⟩:=h;exact⟨⟨_,_,Q,h1,h2,h3,fun h=>by cases h⟩,h4⟩
theorem Jeu (m:Int) (q e k z h d:Int) (t:ByteArray) (A:Option Addr) (N:List ByteArray) (c:Nat) (en:Bool) (w:World) (hE:Env m w) (hN:Sl w A N) (hf:ResFit e k z h d t N):
  Calls prog 66 #[.int .i64 q,resV e k z h d t A N c en] w (AnsOut (ansM q k z h d t.data.toList (dataL N) en) w):=by
 obtain⟨W1,hW1⟩:=words.nm (w.alloc (.cells #[.int .i64 e,.int .i64 k,.int .i64 z,.int .i64 h,.int .i64 d,.string t,.slice A N.length c,.bool en] 57));have hb1:=words.b1 hW1;have hx:W1.heap[w.heap.size]?=some (resB e k z h d t A N c en):=by rw [hW1];exact heap_alloc_new w _
 have HX:=hid hx;have HF:=hid hf;have HE:=hid (hE.later hb1);have HS1:=hid (hN.later hb1);have HB1:=hid hb1;have HW:=hid hW1.symm;unfold resB at hx;have c0:W1.cell? ⟨w.heap.size,0,none⟩=some (.int .i64 e):=Jaa hx 0;have c1:W1.cell? ⟨w.heap.size,1,none⟩=some (.int .i64 k):=Jaa hx 1;have c2:W1.cell? ⟨w.heap.size,2,none⟩=some (.int .i64 z):=Jaa hx 2;have c3:W1.cell? ⟨w.heap.size,3,none⟩=some (.int .i64 h):=Jaa hx 3;have c4:W1.cell? ⟨w.heap.size,4,none⟩=some (.int .i64 d):=Jaa hx 4;have c5:W1.cell? ⟨w.heap.size,5,none⟩=some (.string t):=Jaa hx 5;have c6:W1.cell? ⟨w.heap.size,6,none⟩=some (.slice A N.length c):=Jaa hx 6;have c7:W1.cell? ⟨w.heap.size,7,none⟩=some (.bool en):=Jaa hx 7;clear hW1 hb1 hx hE hN hf;unfold resV;go_enter func66,ntmps66
 go_upto_region 1 with fail
 rw [HW.out];clear HW;by_cases h1:q=1
 ·subst h1
  have HS:Hid (∀w':World,Below W1.heap.size W1 w'→(w'.cell? ⟨w.heap.size,1,none⟩=some (.int .i64 k)∧w'.cell? ⟨w.heap.size,3,none⟩=some (.int .i64 h))):=hid fun w' hb=>by
   have e1:=(hb.block _ (lt_of_some HX.out)).trans HX.out;unfold resB at e1;exact⟨Jaa e1 1,Jaa e1 3⟩
  have HBv:Hid (Below W1.heap.size W1 W1.drew):=hid (Below.refl _ _).drew;have HA:Hid (∀w':World,Below W1.heap.size W1 w'→Calls prog 33 #[.int .i64 k] w' fun e w''=>(∃r:ByteArray,e= .returned (.string r)∧r.data.toList=Lib.itoa k)∧Below W1.heap.size W1 w''):=hid fun w' hb=>(Jap m k w' HF.out.k (HE.out.later hb)).mono fun e w'' ⟨h1,h2⟩=>⟨h1,hb.trans (h2.mono hb.size)⟩
  have HBB:Hid (∀w':World,Below W1.heap.size W1 w'→Calls prog 33 #[.int .i64 h] w' fun e w''=>(∃r:ByteArray,e= .returned (.string r)∧r.data.toList=Lib.itoa h)∧Below W1.heap.size W1 w''):=hid fun w' hb=>(Jap m h w' HF.out.h (HE.out.later hb)).mono fun e w'' ⟨h1,h2⟩=>⟨h1,hb.trans (h2.mono hb.size)⟩
  go_upto_region 3 with fail
  refine wp_region_held_drew (S:=fun w'=>(w'.cell? ⟨w.heap.size,1,none⟩=some (.int .i64 k)∧w'.cell? ⟨w.heap.size,3,none⟩=some (.int .i64 h))) (by kernel_rfl) (HS.out _ HBv.out) (fun hHeld=>?_);refine words.tk 0 8 (v:=?_) ?_ ?_
  rotate_left 1
  ·intro _ h;(try dsimp only at h);go_simp;(try with_reducible rfl)
  try simp only [words.pt]
  refine words.tk 1 9 (v:=?_) ?_ ?_
  rotate_left 1
  ·intro _ h;(try dsimp only at h);go_simp;(try with_reducible rfl)
  try simp only [words.pt]
  refine words.tk 3 11 (v:=?_) ?_ ?_
  rotate_left 1
  ·intro _ h;(try dsimp only at h);go_simp;(try with_reducible rfl)
  try simp only [words.pt]
  refine words.tk 4 12 (v:=?_) ?_ ?_
  rotate_left 1
  ·intro _ h;(try dsimp only at h);go_simp;(try with_reducible rfl)
  try simp only [words.pt]
  refine wpAnyH_ready (rs:=[2]) (by kernel_rfl) (by simp) (.cons rfl (fun K hK=>?_) .nil);go_simp
  go_at_call 33
  refine (HA.out _ HBv.out).mono ?_;rintro en1 v1 ⟨⟨ra,rfl,hra⟩,hv1⟩;clear hHeld;refine hK.out _ _ (HS.out _ hv1) (fun hHeld=>?_);clear hK;refine wpAnyH_ready (rs:=[5]) (by kernel_rfl) (by simp) (.cons rfl (fun K hK=>?_) .nil);go_simp
  go_at_call 33
  refine (HBB.out _ hv1).mono ?_;rintro en2 v2 ⟨⟨rb,rfl,hrb⟩,hv2⟩;clear hHeld;refine hK.out _ _ (HS.out _ hv2) (fun hHeld=>?_);clear hK;refine wpAnyH_ready (rs:=[6]) (by kernel_rfl) (by simp) (.cons rfl (fun K hK=>?_) .nil);go_simp
  clear hHeld;refine hK.out _ _ (HS.out _ (hv2.trans ((Below.refl _ _).alloc (Nat.le_refl _) _ |>.mono hv2.size))) (fun hHeld=>?_);clear hK;refine words.tk 7 4 (v:=?_) ?_ ?_
  rotate_left 1
  ·intro _ h;(try dsimp only at h);go_simp;(try with_reducible rfl)
  try simp only [words.pt]
  refine wpAnyH_done (by kernel_rfl) ?_ _;have HR:Hid (AnsOut (ansM 1 k z h d t.data.toList (dataL N) en) w (.returned (.slice (some ⟨v2.heap.size,0,none⟩) 2 2)) (v2.alloc (.cells #[.string ra,.string rb] 9))):=hid (rest_end (HB1.out.trans (hv2.mono HB1.out.size)) [ra,rb] (show [ra.data.toList,rb.data.toList]=_ by rw [hra,hrb];rfl) 2 rfl _ rfl).ans;clear hHeld hra hrb hv1 hv2 HA HBB HS HBv;go_wp2_with fail
  go_ret
  exact HR.out
 have g1:(q==1)=false:=by rw [beq_eq_false_iff_ne];exact h1
 by_cases h2:q=2
 ·subst h2
  clear h1;have HS:Hid (∀w':World,Below W1.heap.size W1 w'→(w'.cell? ⟨w.heap.size,1,none⟩=some (.int .i64 k)∧w'.cell? ⟨w.heap.size,2,none⟩=some (.int .i64 z))):=hid fun w' hb=>by
   have e1:=(hb.block _ (lt_of_some HX.out)).trans HX.out;unfold resB at e1;exact⟨Jaa e1 1,Jaa e1 2⟩
  have HBv:Hid (Below W1.heap.size W1 W1.drew):=hid (Below.refl _ _).drew;have HA:Hid (∀w':World,Below W1.heap.size W1 w'→Calls prog 33 #[.int .i64 k] w' fun e w''=>(∃r:ByteArray,e= .returned (.string r)∧r.data.toList=Lib.itoa k)∧Below W1.heap.size W1 w''):=hid fun w' hb=>(Jap m k w' HF.out.k (HE.out.later hb)).mono fun e w'' ⟨h1,h2⟩=>⟨h1,hb.trans (h2.mono hb.size)⟩
  have HBB:Hid (∀w':World,Below W1.heap.size W1 w'→Calls prog 33 #[.int .i64 z] w' fun e w''=>(∃r:ByteArray,e= .returned (.string r)∧r.data.toList=Lib.itoa z)∧Below W1.heap.size W1 w''):=hid fun w' hb=>(Jap m z w' HF.out.z (HE.out.later hb)).mono fun e w'' ⟨h1,h2⟩=>⟨h1,hb.trans (h2.mono hb.size)⟩
  go_upto_region 5 with fail
  refine wp_region_held_drew (S:=fun w'=>(w'.cell? ⟨w.heap.size,1,none⟩=some (.int .i64 k)∧w'.cell? ⟨w.heap.size,2,none⟩=some (.int .i64 z))) (by kernel_rfl) (HS.out _ HBv.out) (fun hHeld=>?_);refine words.tk 0 17 (v:=?_) ?_ ?_
  rotate_left 1
  ·intro _ h;(try dsimp only at h);go_simp;(try with_reducible rfl)
  try simp only [words.pt]
  refine words.tk 1 18 (v:=?_) ?_ ?_
  rotate_left 1
  ·intro _ h;(try dsimp only at h);go_simp;(try with_reducible rfl)
  try simp only [words.pt]
  refine words.tk 3 20 (v:=?_) ?_ ?_
  rotate_left 1
  ·intro _ h;(try dsimp only at h);go_simp;(try with_reducible rfl)
  try simp only [words.pt]
  refine words.tk 4 21 (v:=?_) ?_ ?_
  rotate_left 1
  ·intro _ h;(try dsimp only at h);go_simp;(try with_reducible rfl)
  try simp only [words.pt]
  refine wpAnyH_ready (rs:=[2]) (by kernel_rfl) (by simp) (.cons rfl (fun K hK=>?_) .nil);go_simp
  go_at_call 33
  refine (HA.out _ HBv.out).mono ?_;rintro en1 v1 ⟨⟨ra,rfl,hra⟩,hv1⟩;clear hHeld;refine hK.out _ _ (HS.out _ hv1) (fun hHeld=>?_);clear hK;refine wpAnyH_ready (rs:=[5]) (by kernel_rfl) (by simp) (.cons rfl (fun K hK=>?_) .nil);go_simp
  go_at_call 33
  refine (HBB.out _ hv1).mono ?_;rintro en2 v2 ⟨⟨rb,rfl,hrb⟩,hv2⟩;clear hHeld;refine hK.out _ _ (HS.out _ hv2) (fun hHeld=>?_);clear hK;refine wpAnyH_ready (rs:=[6]) (by kernel_rfl) (by simp) (.cons rfl (fun K hK=>?_) .nil);go_simp
  clear hHeld;refine hK.out _ _ (HS.out _ (hv2.trans ((Below.refl _ _).alloc (Nat.le_refl _) _ |>.mono hv2.size))) (fun hHeld=>?_);clear hK;refine words.tk 7 4 (v:=?_) ?_ ?_
  rotate_left 1
  ·intro _ h;(try dsimp only at h);go_simp;(try with_reducible rfl)
  try simp only [words.pt]
  refine wpAnyH_done (by kernel_rfl) ?_ _;have HR:Hid (AnsOut (ansM 2 k z h d t.data.toList (dataL N) en) w (.returned (.slice (some ⟨v2.heap.size,0,none⟩) 2 2)) (v2.alloc (.cells #[.string ra,.string rb] 9))):=hid (rest_end (HB1.out.trans (hv2.mono HB1.out.size)) [ra,rb] (show [ra.data.toList,rb.data.toList]=_ by rw [hra,hrb];rfl) 2 rfl _ rfl).ans;clear hHeld hra hrb hv1 hv2 HA HBB HS HBv;go_wp2_with fail
  go_ret
  exact HR.out
 have g2:(q==2)=false:=by rw [beq_eq_false_iff_ne];exact h2
 by_cases h3:q=3
 ·subst h3
  clear h1 h2;have HC:=hid (Jed t W1 (by have:=HF.out.t;omega));go_wp2_with fail
  refine HC.out.mono ?_;rintro en2 w2 ⟨⟨r,rfl,hr⟩,hb2⟩;have HR:Hid (AnsOut (ansM 3 k z h d t.data.toList (dataL N) en) w (.returned (.slice (some ⟨w2.heap.size,0,none⟩) 1 1)) (w2.alloc (.cells #[.string r] 9))):=hid (rest_end (HB1.out.trans (hb2.mono HB1.out.size)) [r] (show [r.data.toList]=_ by rw [hr];rfl) 1 rfl _ rfl).ans;clear hr hb2 HC;go_wp2_with fail
  go_ret
  exact HR.out
 have g3:(q==3)=false:=by rw [beq_eq_false_iff_ne];exact h3
 by_cases h4:q=4
 ·subst h4
  clear h1 h2 h3;have HC:=hid (Jed t W1 (by have:=HF.out.t;omega));go_wp2_with fail
  refine HC.out.mono ?_;rintro en2 w2 ⟨⟨r,rfl,hr⟩,hb2⟩;have HR:Hid (AnsOut (ansM 4 k z h d t.data.toList (dataL N) en) w (.returned (.slice (some ⟨w2.heap.size,0,none⟩) 1 1)) (w2.alloc (.cells #[.string r] 9))):=hid (rest_end (HB1.out.trans (hb2.mono HB1.out.size)) [r] (show [r.data.toList]=_ by rw [hr];rfl) 1 rfl _ rfl).ans;clear hr hb2 HC;go_wp2_with fail
  go_ret
  exact HR.out
 have g4:(q==4)=false:=by rw [beq_eq_false_iff_ne];exact h4
 by_cases h5:q=5
 ·subst h5
  clear h1 h2 h3 h4;have HC:=hid (Jap m d W1 HF.out.d HE.out);go_wp2_with fail
  refine HC.out.mono ?_;rintro en2 w2 ⟨⟨r,rfl,hr⟩,hb2⟩;have HR:Hid (AnsOut (ansM 5 k z h d t.data.toList (dataL N) en) w (.returned (.slice (some ⟨w2.heap.size,0,none⟩) 1 1)) (w2.alloc (.cells #[.string r] 9))):=hid (rest_end (HB1.out.trans (hb2.mono HB1.out.size)) [r] (show [r.data.toList]=_ by rw [hr];rfl) 1 rfl _ rfl).ans;clear hr hb2 HC;go_wp2_with fail
  go_ret
  exact HR.out
 have g5:(q==5)=false:=by rw [beq_eq_false_iff_ne];exact h5
 by_cases h8:q=8
 ·subst h8
  clear h1 h2 h3 h4 h5;have HC:=hid (Jap m d W1 HF.out.d HE.out);go_wp2_with fail
  refine HC.out.mono ?_;rintro en2 w2 ⟨⟨r,rfl,hr⟩,hb2⟩;have HR:Hid (AnsOut (ansM 8 k z h d t.data.toList (dataL N) en) w (.returned (.slice (some ⟨w2.heap.size,0,none⟩) 1 1)) (w2.alloc (.cells #[.string r] 9))):=hid (rest_end (HB1.out.trans (hb2.mono HB1.out.size)) [r] (show [r.data.toList]=_ by rw [hr];rfl) 1 rfl _ rfl).ans;clear hr hb2 HC;go_wp2_with fail
  go_ret
  exact HR.out
 have g8:(q==8)=false:=by rw [beq_eq_false_iff_ne];exact h8
 by_cases h6:q=6
 ·subst h6
  clear h1 h2 h3 h4 h5 h8;have HC:=hid (Jks e k z h d t A N c en W1 HS1.out HF.out.N);unfold resV at HC;go_wp2_with fail
  refine HC.out.mono ?_;rintro en2 w2 ⟨v,Q,rfl,hg⟩;obtain⟨A2,c2,rfl,hs,hn⟩:=hg.val;have HR:Hid (AnsOut (ansM 6 k z h d t.data.toList (dataL N) en) w (.returned (.slice A2 Q.length c2)) w2):=hid ⟨⟨A2,c2,Q,rfl,hg.data,hs,hn⟩,HB1.out.trans (hg.low.mono HB1.out.size)⟩;clear hg hs hn HC;go_wp2_with fail
  go_ret
  exact HR.out
 have g6:(q==6)=false:=by rw [beq_eq_false_iff_ne];exact h6
 have HR:Hid (AnsOut (ansM q k z h d t.data.toList (dataL N) en) w (.returned (.slice none 0 0)) W1):=hid ⟨⟨none,0,[],rfl,by
   unfold ansM;rw [if_neg h1,if_neg h2,if_neg (fun h=>h.elim h3 h4),if_neg (fun h=>h.elim h5 h8),if_neg h6];rfl,(fun i x hx=>(by cases hx)),fun _=>⟨rfl,rfl⟩⟩,HB1.out⟩
 clear h1 h2 h3 h4 h5 h8 h6;go_wp2_with fail
 go_ret
 exact HR.out
theorem join_cons (a:List UInt8):∀L:List (List UInt8),joinM (a::L)=a++L.flatMap (fun x=>32::x)
 |[]=>by simp [joinM]
 |b::r=>by
  show a++32::joinM (b::r)=_;rw [join_cons b r];simp
theorem Jd9 (n:Nat):∀L:List (List UInt8),(∀x∈L,x.length≤n)→(L.flatMap (fun x=>32::x)).length≤L.length*(n+1)
 |[],_=>by simp
 |x::L,h=>by
  have h1:=Jd9 n L fun y hy=>h y (List.mem_cons_of_mem _ hy);have h2:=h x (List.mem_cons_self ..);simp only [List.flatMap_cons,List.length_append,List.length_cons];have:(L.length+1)*(n+1)=L.length*(n+1)+(n+1):=by rw [Nat.add_mul,Nat.one_mul]
  omega
theorem Ji0 {q e k z h d:Int} {t:ByteArray} {N:List ByteArray} {en:Bool} (hf:ResFit e k z h d t N):(∀x∈ansM q k z h d t.data.toList (dataL N) en,x.length≤2097153)∧(ansM q k z h d t.data.toList (dataL N) en).length≤101:=by
 have a1:=Lib.itoa_length_le k hf.k.1 hf.k.2;have a2:=Lib.itoa_length_le h hf.h.1 hf.h.2;have a3:=Lib.itoa_length_le z hf.z.1 hf.z.2;have a4:=Lib.itoa_length_le d hf.d.1 hf.d.2;have a5:=Jbl t.data.toList;rw [size_list] at a5;have a6:=hf.t;have a7:∀x∈N,(hexL x.data.toList).length≤2097153:=fun x hx=>by
  have h1:=Jbl x.data.toList;rw [size_list] at h1;have:=hf.N.2 x hx;omega
 have a8:=hf.N.1;unfold ansM;split
 ·refine⟨fun x hx=>?_,by simp⟩
  simp only [List.mem_cons,List.mem_nil_iff,or_false] at hx;rcases hx with rfl |rfl<;>omega
 split
 ·refine⟨fun x hx=>?_,by simp⟩
  simp only [List.mem_cons,List.mem_nil_iff,or_false] at hx;rcases hx with rfl |rfl<;>omega
 split
 ·refine⟨fun x hx=>?_,by simp⟩
  simp only [List.mem_cons,List.mem_nil_iff,or_false] at hx;subst hx;omega
 split
 ·refine⟨fun x hx=>?_,by simp⟩
  simp only [List.mem_cons,List.mem_nil_iff,or_false] at hx;subst hx;omega
 split
 ·unfold pageM dataL
  refine⟨fun x hx=>?_,?_⟩
  ·rcases List.mem_append.1 hx with hx |hx
   ·cases en with
    |true=>
     simp only [if_true,List.mem_cons,List.mem_nil_iff,or_false] at hx;subst hx;decide
    |false=>simp at hx
   ·rw [List.map_map] at hx
    obtain⟨y,hy,rfl⟩:=List.mem_map.1 hx;exact a7 y hy
  ·cases en<;>simp<;>omega
 ·exact⟨fun x hx=>by simp at hx,by simp⟩
theorem Jj7 (m:Int) (q e k z h d:Int) (t:ByteArray) (A:Option Addr) (N:List ByteArray) (c:Nat) (en:Bool) (w:World) (hE:Env m w) (hN:Sl w A N) (hf:ResFit e k z h d t N):
  Calls prog 34 #[.int .i64 q,resV e k z h d t A N c en] w (StrOut (showM q e k z h d t.data.toList (dataL N) en) w):=by
 obtain⟨W1,hW1⟩:=words.nm (w.alloc (.cells #[.int .i64 e,.int .i64 k,.int .i64 z,.int .i64 h,.int .i64 d,.string t,.slice A N.length c,.bool en] 57));have hb1:=words.b1 hW1;have hx:W1.heap[w.heap.size]?=some (resB e k z h d t A N c en):=by rw [hW1];exact heap_alloc_new w _
 have HE:=hid (hE.later hb1);have HF:=hid hf;have HAn:=hid (Jeu m q e k z h d t A N c en W1 HE.out (hN.later hb1) hf);have HB1:=hid hb1;have HW:=hid hW1.symm;unfold resB at hx;have c0:W1.cell? ⟨w.heap.size,0,none⟩=some (.int .i64 e):=Jaa hx 0;have c1:W1.cell? ⟨w.heap.size,1,none⟩=some (.int .i64 k):=Jaa hx 1;have c2:W1.cell? ⟨w.heap.size,2,none⟩=some (.int .i64 z):=Jaa hx 2;have c3:W1.cell? ⟨w.heap.size,3,none⟩=some (.int .i64 h):=Jaa hx 3;have c4:W1.cell? ⟨w.heap.size,4,none⟩=some (.int .i64 d):=Jaa hx 4;have c5:W1.cell? ⟨w.heap.size,5,none⟩=some (.string t):=Jaa hx 5;have c6:W1.cell? ⟨w.heap.size,6,none⟩=some (.slice A N.length c):=Jaa hx 6;have c7:W1.cell? ⟨w.heap.size,7,none⟩=some (.bool en):=Jaa hx 7;clear hW1 hb1 hx hE hN hf;unfold resV at HAn ⊢;go_enter func34,ntmps34
 go_upto_region 1 with fail
 rw [HW.out];clear HW;by_cases he:e=0
 ·subst he
  have HM:Hid (showM q 0 k z h d t.data.toList (dataL N) en=joinM (okL::ansM q k z h d t.data.toList (dataL N) en)):=hid rfl;go_wp2_with fail
  refine HAn.out.mono ?_;rintro en2 w2 ⟨⟨A2,cq,Q,rfl,hQ,hS,hA⟩,hb2⟩;obtain⟨hl1,hl2⟩:=Ji0 (q:=q) (en:=en) HF.out;rw [←hQ] at hl1 hl2;have hq:Q.length≤101:=by unfold dataL at hl2;rwa [List.length_map] at hl2
  have hjl:(joinM ((⟨#[111,107]⟩:ByteArray).data.toList::dataL Q)).length≤1000000000:=by
   rw [join_cons,List.length_append];have:=Jd9 2097153 (dataL Q) hl1;have h3:(dataL Q).length*(2097153+1)≤101*(2097153+1):=Nat.mul_le_mul_right _ hl2;have h4:((⟨#[111,107]⟩:ByteArray).data.toList).length=2:=rfl;omega
  have HJ:=hid (Jdm ⟨#[111,107]⟩ A2 cq Q w2 hS hA hjl (by omega));rw [hQ] at HJ;have HB2:=hid (HB1.out.trans (hb2.mono HB1.out.size));clear hQ hS hA hb2 hl1 hl2 hq hjl HAn c0 c1 c2 c3 c4 c5 c6 c7;go_wp2_with fail
  refine HJ.out.mono ?_;rintro en3 w3 ⟨⟨r,rfl,hr⟩,hb3⟩;have HFn:Hid (StrOut (showM q 0 k z h d t.data.toList (dataL N) en) w (.returned (.string r)) w3):=hid ⟨⟨r,rfl,hr⟩,HB2.out.trans (hb3.mono HB2.out.size)⟩;clear hr hb3 HJ;go_wp2_with fail
  go_ret
  exact HFn.out
 ·have ge:(e !=0)=true:=by rw [bne_iff_ne];exact he
  have HM:Hid (showM q e k z h d t.data.toList (dataL N) en=joinM [errL,Lib.itoa e]):=hid (if_neg he);have HI:=hid (Jap m e W1 HF.out.e HE.out);clear he;go_wp2_with fail
  refine HI.out.mono ?_;rintro en2 w2 ⟨⟨r,rfl,hr⟩,hb2⟩;obtain⟨W3,hW3⟩:=words.nm (w2.alloc (.cells #[.string r] 9));have hb3:Below w2.heap.size w2 W3:=words.b1 hW3;have hS:Sl W3 (some ⟨w2.heap.size,0,none⟩) [r]:=by rw [hW3];exact Jcy w2 [r]
  have hrl:=Lib.itoa_length_le e HF.out.e.1 HF.out.e.2;have hjl:(joinM ((⟨#[101,114,114,111,114]⟩:ByteArray).data.toList::dataL [r])).length≤1000000000:=by
   rw [join_cons];simp only [dataL,List.map_cons,List.map_nil,List.flatMap_cons,List.flatMap_nil,List.append_nil,List.length_append,List.length_cons,hr];simp;omega
  have HJ:=hid (Jdm ⟨#[101,114,114,111,114]⟩ (some ⟨w2.heap.size,0,none⟩) 1 [r] W3 hS (fun h=>by cases h) hjl (by simp));have hdt:dataL [r]=[Lib.itoa e]:=by rw [←hr];rfl
  rw [hdt] at HJ;have HB3:=hid (HB1.out.trans ((hb2.trans (hb3.mono hb2.size)).mono HB1.out.size));have HW3:=hid hW3.symm;have t1:([r]:List ByteArray).length=1:=rfl;clear hr hb2 hW3 hb3 hS hrl hjl hdt HI c0 c1 c2 c3 c4 c5 c6 c7;go_wp2_with fail
  rw [HW3.out];refine HJ.out.mono ?_;rintro en3 w4 ⟨⟨u,rfl,hu⟩,hb4⟩;have HFn:Hid (StrOut (showM q e k z h d t.data.toList (dataL N) en) w (.returned (.string u)) w4):=hid ⟨⟨u,rfl,by rw [hu,HM.out];rfl⟩,HB3.out.trans (hb4.mono HB3.out.size)⟩;clear hu hb4 HJ;go_wp2_with fail
  go_ret
  exact HFn.out

theorem Jaj {r:ByteArray} {n:Int} (hr:r.data.toList=Lib.itoa n) (hn:I64 n):r.size≤21:=by
 rw [←size_list,hr];exact Lib.itoa_length_le n hn.1 hn.2

theorem Jej (a x:List UInt8) (L:List (List UInt8)):joinM (a::(L++[x]))=joinM (a::L)++32::x:=by
 rw [join_cons,join_cons,List.flatMap_append,List.append_assoc];simp
theorem Jbw {q k z h d:Int} {t:List UInt8} {N:List (List UInt8)} {en:Bool}:showM q 0 k z h d t N en=joinM (okL::ansM q k z h d t N en):=rfl
theorem Jk8 {q e k z h d:Int} {t:List UInt8} {N:List (List UInt8)} {en:Bool} (he:e≠0):showM q e k z h d t N en=errL++32::Lib.itoa e:=if_neg he
theorem Jfk (q e k z h d:Int) (t:ByteArray) (A:Option Addr) (N:List ByteArray) (c:Nat) (en:Bool) (w:World) (hN:Sl w A N) (hf:ResFit e k z h d t N):
  Calls prog 35 #[.int .i64 q,resV e k z h d t A N c en] w (StrOut (showM q e k z h d t.data.toList (dataL N) en) w):=by
 obtain⟨W1,hW1⟩:=words.nm (w.alloc (.cells #[.int .i64 e,.int .i64 k,.int .i64 z,.int .i64 h,.int .i64 d,.string t,.slice A N.length c,.bool en] 57));have hb1:=words.b1 hW1;have hx:W1.heap[w.heap.size]?=some (resB e k z h d t A N c en):=by rw [hW1];exact heap_alloc_new w _
 have HX:=hid hx;have HF:=hid hf;have HS1:=hid (hN.later hb1);have HB1:=hid hb1;have HW:=hid hW1.symm;have hl:N.length≤100:=hf.N.1;unfold resB at hx;have c0:W1.cell? ⟨w.heap.size,0,none⟩=some (.int .i64 e):=Jaa hx 0;have c1:W1.cell? ⟨w.heap.size,1,none⟩=some (.int .i64 k):=Jaa hx 1;have c2:W1.cell? ⟨w.heap.size,2,none⟩=some (.int .i64 z):=Jaa hx 2;have c3:W1.cell? ⟨w.heap.size,3,none⟩=some (.int .i64 h):=Jaa hx 3;have c4:W1.cell? ⟨w.heap.size,4,none⟩=some (.int .i64 d):=Jaa hx 4;have c5:W1.cell? ⟨w.heap.size,5,none⟩=some (.string t):=Jaa hx 5;have c6:W1.cell? ⟨w.heap.size,6,none⟩=some (.slice A N.length c):=Jaa hx 6;have c7:W1.cell? ⟨w.heap.size,7,none⟩=some (.bool en):=Jaa hx 7;clear hW1 hb1 hx hN hf;unfold resV;go_enter func35,ntmps35
 go_upto_region 1 with fail
 rw [HW.out];clear HW;by_cases he:e=0
 rotate_left 1
 ·have ge:(e !=0)=true:=by rw [bne_iff_ne];exact he
  have HM:=hid (Jk8 (q:=q) (k:=k) (z:=z) (h:=h) (d:=d) (t:=t.data.toList) (N:=dataL N) (en:=en) he);have HI:=hid (Jaf e HF.out.e W1);clear he;go_wp2_with fail
  refine HI.out.mono ?_;rintro en2 w2 ⟨⟨r,rfl,hr⟩,hb2⟩;have hrz:=Jaj hr HF.out.e;have y1:¬9223372036854775807<6+r.size:=by omega
  have HFn:Hid (StrOut (showM q e k z h d t.data.toList (dataL N) en) w (.returned (.string (⟨#[101,114,114,111,114,32]⟩++r))) w2):=hid ⟨⟨_,rfl,by rw [Jae,hr,HM.out];rfl⟩,HB1.out.trans (hb2.mono HB1.out.size)⟩;clear hr hb2 HI;go_wp2_with fail
  go_ret
  exact HFn.out
 subst he;by_cases h1:q=1
 ·subst h1
  have HS:Hid (∀w':World,Below W1.heap.size W1 w'→(w'.cell? ⟨w.heap.size,1,none⟩=some (.int .i64 k)∧w'.cell? ⟨w.heap.size,3,none⟩=some (.int .i64 h))):=hid fun w' hb=>by
   have e1:=(hb.block _ (lt_of_some HX.out)).trans HX.out;unfold resB at e1;exact⟨Jaa e1 1,Jaa e1 3⟩
  have HBv:Hid (Below W1.heap.size W1 W1.drew):=hid (Below.refl _ _).drew;have HA:Hid (∀w':World,Below W1.heap.size W1 w'→Calls prog 10 #[.int .i64 k] w' fun e w''=>(∃r:ByteArray,e= .returned (.string r)∧r.data.toList=Lib.itoa k)∧Below W1.heap.size W1 w''):=hid fun w' hb=>(Jaf k HF.out.k w').mono fun e w'' ⟨h1,h2⟩=>⟨h1,hb.trans (h2.mono hb.size)⟩
  have HBB:Hid (∀w':World,Below W1.heap.size W1 w'→Calls prog 10 #[.int .i64 h] w' fun e w''=>(∃r:ByteArray,e= .returned (.string r)∧r.data.toList=Lib.itoa h)∧Below W1.heap.size W1 w''):=hid fun w' hb=>(Jaf h HF.out.h w').mono fun e w'' ⟨h1,h2⟩=>⟨h1,hb.trans (h2.mono hb.size)⟩
  go_upto_region 5 with fail
  refine wp_region_held_drew (S:=fun w'=>(w'.cell? ⟨w.heap.size,1,none⟩=some (.int .i64 k)∧w'.cell? ⟨w.heap.size,3,none⟩=some (.int .i64 h))) (by kernel_rfl) (HS.out _ HBv.out) (fun hHeld=>?_);refine words.tk 0 17 (v:=?_) ?_ ?_
  rotate_left 1
  ·intro _ h;(try dsimp only at h);go_simp;(try with_reducible rfl)
  try simp only [words.pt]
  refine words.tk 1 18 (v:=?_) ?_ ?_
  rotate_left 1
  ·intro _ h;(try dsimp only at h);go_simp;(try with_reducible rfl)
  try simp only [words.pt]
  refine words.tk 5 22 (v:=?_) ?_ ?_
  rotate_left 1
  ·intro _ h;(try dsimp only at h);go_simp;(try with_reducible rfl)
  try simp only [words.pt]
  refine words.tk 6 23 (v:=?_) ?_ ?_
  rotate_left 1
  ·intro _ h;(try dsimp only at h);go_simp;(try with_reducible rfl)
  try simp only [words.pt]
  refine wpAnyH_ready (rs:=[2]) (by kernel_rfl) (by simp) (.cons rfl (fun K hK=>?_) .nil);go_simp
  go_at_call 10
  refine (HA.out _ HBv.out).mono ?_;rintro en1 v1 ⟨⟨ra,rfl,hra⟩,hv1⟩;have ya:=Jaj hra HF.out.k;have y1:¬9223372036854775807<3+ra.size:=by omega
  have y2:¬9223372036854775807<3+ra.size+1:=by omega
  clear hHeld;refine hK.out _ _ (HS.out _ hv1) (fun hHeld=>?_);clear hK;refine words.tk 3 20 (v:=?_) ?_ ?_
  rotate_left 1
  ·intro _ h;(try dsimp only at h);go_simp;(try with_reducible rfl)
  try simp only [words.pt]
  refine words.tk 4 21 (v:=?_) ?_ ?_
  rotate_left 1
  ·intro _ h;(try dsimp only at h);go_simp;(try with_reducible rfl)
  try simp only [words.pt]
  refine wpAnyH_ready (rs:=[7]) (by kernel_rfl) (by simp) (.cons rfl (fun K hK=>?_) .nil);go_simp
  go_at_call 10
  refine (HBB.out _ hv1).mono ?_;rintro en2 v2 ⟨⟨rb,rfl,hrb⟩,hv2⟩;have yb:=Jaj hrb HF.out.h;have y3:¬9223372036854775807<3+ra.size+1+rb.size:=by omega
  clear hHeld;refine hK.out _ _ (HS.out _ hv2) (fun hHeld=>?_);clear hK;refine words.tk 8 25 (v:=?_) ?_ ?_
  rotate_left 1
  ·intro _ h;(try dsimp only at h);go_simp;(try with_reducible rfl)
  try simp only [words.pt]
  refine words.tk 9 4 (v:=?_) ?_ ?_
  rotate_left 1
  ·intro _ h;(try dsimp only at h);go_simp;(try with_reducible rfl)
  try simp only [words.pt]
  refine wpAnyH_done (by kernel_rfl) ?_ _;have HFn:Hid (StrOut (showM 1 0 k z h d t.data.toList (dataL N) en) w (.returned (.string (⟨#[111,107,32]⟩++ra++⟨#[32]⟩++rb))) v2):=hid ⟨⟨_,rfl,by simp only [Jae,hra,hrb,Jbw,List.append_assoc];rfl⟩,HB1.out.trans (hv2.mono HB1.out.size)⟩;clear hHeld hra hrb hv1 hv2 HA HBB HS HBv;go_wp2_with fail
  go_ret
  exact HFn.out
 have g1:(q==1)=false:=by rw [beq_eq_false_iff_ne];exact h1
 by_cases h2:q=2
 ·subst h2
  clear h1;have HS:Hid (∀w':World,Below W1.heap.size W1 w'→(w'.cell? ⟨w.heap.size,1,none⟩=some (.int .i64 k)∧w'.cell? ⟨w.heap.size,2,none⟩=some (.int .i64 z))):=hid fun w' hb=>by
   have e1:=(hb.block _ (lt_of_some HX.out)).trans HX.out;unfold resB at e1;exact⟨Jaa e1 1,Jaa e1 2⟩
  have HBv:Hid (Below W1.heap.size W1 W1.drew):=hid (Below.refl _ _).drew;have HA:Hid (∀w':World,Below W1.heap.size W1 w'→Calls prog 10 #[.int .i64 k] w' fun e w''=>(∃r:ByteArray,e= .returned (.string r)∧r.data.toList=Lib.itoa k)∧Below W1.heap.size W1 w''):=hid fun w' hb=>(Jaf k HF.out.k w').mono fun e w'' ⟨h1,h2⟩=>⟨h1,hb.trans (h2.mono hb.size)⟩
  have HBB:Hid (∀w':World,Below W1.heap.size W1 w'→Calls prog 10 #[.int .i64 z] w' fun e w''=>(∃r:ByteArray,e= .returned (.string r)∧r.data.toList=Lib.itoa z)∧Below W1.heap.size W1 w''):=hid fun w' hb=>(Jaf z HF.out.z w').mono fun e w'' ⟨h1,h2⟩=>⟨h1,hb.trans (h2.mono hb.size)⟩
  go_upto_region 7 with fail
  refine wp_region_held_drew (S:=fun w'=>(w'.cell? ⟨w.heap.size,1,none⟩=some (.int .i64 k)∧w'.cell? ⟨w.heap.size,2,none⟩=some (.int .i64 z))) (by kernel_rfl) (HS.out _ HBv.out) (fun hHeld=>?_);refine words.tk 0 28 (v:=?_) ?_ ?_
  rotate_left 1
  ·intro _ h;(try dsimp only at h);go_simp;(try with_reducible rfl)
  try simp only [words.pt]
  refine words.tk 1 29 (v:=?_) ?_ ?_
  rotate_left 1
  ·intro _ h;(try dsimp only at h);go_simp;(try with_reducible rfl)
  try simp only [words.pt]
  refine words.tk 5 33 (v:=?_) ?_ ?_
  rotate_left 1
  ·intro _ h;(try dsimp only at h);go_simp;(try with_reducible rfl)
  try simp only [words.pt]
  refine words.tk 6 34 (v:=?_) ?_ ?_
  rotate_left 1
  ·intro _ h;(try dsimp only at h);go_simp;(try with_reducible rfl)
  try simp only [words.pt]
  refine wpAnyH_ready (rs:=[2]) (by kernel_rfl) (by simp) (.cons rfl (fun K hK=>?_) .nil);go_simp
  go_at_call 10
  refine (HA.out _ HBv.out).mono ?_;rintro en1 v1 ⟨⟨ra,rfl,hra⟩,hv1⟩;have ya:=Jaj hra HF.out.k;have y1:¬9223372036854775807<3+ra.size:=by omega
  have y2:¬9223372036854775807<3+ra.size+1:=by omega
  clear hHeld;refine hK.out _ _ (HS.out _ hv1) (fun hHeld=>?_);clear hK;refine words.tk 3 31 (v:=?_) ?_ ?_
  rotate_left 1
  ·intro _ h;(try dsimp only at h);go_simp;(try with_reducible rfl)
  try simp only [words.pt]
  refine words.tk 4 32 (v:=?_) ?_ ?_
  rotate_left 1
  ·intro _ h;(try dsimp only at h);go_simp;(try with_reducible rfl)
  try simp only [words.pt]
  refine wpAnyH_ready (rs:=[7]) (by kernel_rfl) (by simp) (.cons rfl (fun K hK=>?_) .nil);go_simp
  go_at_call 10
  refine (HBB.out _ hv1).mono ?_;rintro en2 v2 ⟨⟨rb,rfl,hrb⟩,hv2⟩;have yb:=Jaj hrb HF.out.z;have y3:¬9223372036854775807<3+ra.size+1+rb.size:=by omega
  clear hHeld;refine hK.out _ _ (HS.out _ hv2) (fun hHeld=>?_);clear hK;refine words.tk 8 36 (v:=?_) ?_ ?_
  rotate_left 1
  ·intro _ h;(try dsimp only at h);go_simp;(try with_reducible rfl)
  try simp only [words.pt]
  refine words.tk 9 4 (v:=?_) ?_ ?_
  rotate_left 1
  ·intro _ h;(try dsimp only at h);go_simp;(try with_reducible rfl)
  try simp only [words.pt]
  refine wpAnyH_done (by kernel_rfl) ?_ _;have HFn:Hid (StrOut (showM 2 0 k z h d t.data.toList (dataL N) en) w (.returned (.string (⟨#[111,107,32]⟩++ra++⟨#[32]⟩++rb))) v2):=hid ⟨⟨_,rfl,by simp only [Jae,hra,hrb,Jbw,List.append_assoc];rfl⟩,HB1.out.trans (hv2.mono HB1.out.size)⟩;clear hHeld hra hrb hv1 hv2 HA HBB HS HBv;go_wp2_with fail
  go_ret
  exact HFn.out
 have g2:(q==2)=false:=by rw [beq_eq_false_iff_ne];exact h2
 by_cases h3:q=3
 ·subst h3
  clear h1 h2;have HC:=hid (Jbo t W1 (by have:=HF.out.t;omega));go_wp2_with fail
  refine HC.out.mono ?_;rintro en2 w2 ⟨⟨r,rfl,hr⟩,hb2⟩;have hrz:r.size≤30000:=by have h1:=Jbl t.data.toList;rw [←hr,size_list,size_list] at h1;have:=HF.out.t;omega
  have y1:¬9223372036854775807<3+r.size:=by omega
  have HFn:Hid (StrOut (showM 3 0 k z h d t.data.toList (dataL N) en) w (.returned (.string (⟨#[111,107,32]⟩++r))) w2):=hid ⟨⟨_,rfl,by rw [Jae,hr,Jbw];rfl⟩,HB1.out.trans (hb2.mono HB1.out.size)⟩;clear hr hb2 HC;go_wp2_with fail
  go_ret
  exact HFn.out
 have g3:(q==3)=false:=by rw [beq_eq_false_iff_ne];exact h3
 by_cases h4:q=4
 ·subst h4
  clear h1 h2 h3;have HC:=hid (Jbo t W1 (by have:=HF.out.t;omega));go_wp2_with fail
  refine HC.out.mono ?_;rintro en2 w2 ⟨⟨r,rfl,hr⟩,hb2⟩;have hrz:r.size≤30000:=by have h1:=Jbl t.data.toList;rw [←hr,size_list,size_list] at h1;have:=HF.out.t;omega
  have y1:¬9223372036854775807<3+r.size:=by omega
  have HFn:Hid (StrOut (showM 4 0 k z h d t.data.toList (dataL N) en) w (.returned (.string (⟨#[111,107,32]⟩++r))) w2):=hid ⟨⟨_,rfl,by rw [Jae,hr,Jbw];rfl⟩,HB1.out.trans (hb2.mono HB1.out.size)⟩;clear hr hb2 HC;go_wp2_with fail
  go_ret
  exact HFn.out
 have g4:(q==4)=false:=by rw [beq_eq_false_iff_ne];exact h4
 by_cases h5:q=5
 ·subst h5
  clear h1 h2 h3 h4;have HC:=hid (Jaf d HF.out.d W1);go_wp2_with fail
  refine HC.out.mono ?_;rintro en2 w2 ⟨⟨r,rfl,hr⟩,hb2⟩;have hrz:r.size≤30000:=by have:=Jaj hr HF.out.d;omega
  have y1:¬9223372036854775807<3+r.size:=by omega
  have HFn:Hid (StrOut (showM 5 0 k z h d t.data.toList (dataL N) en) w (.returned (.string (⟨#[111,107,32]⟩++r))) w2):=hid ⟨⟨_,rfl,by rw [Jae,hr,Jbw];rfl⟩,HB1.out.trans (hb2.mono HB1.out.size)⟩;clear hr hb2 HC;go_wp2_with fail
  go_ret
  exact HFn.out
 have g5:(q==5)=false:=by rw [beq_eq_false_iff_ne];exact h5
 by_cases h8:q=8
 ·subst h8
  clear h1 h2 h3 h4 h5;have HC:=hid (Jaf d HF.out.d W1);go_wp2_with fail
  refine HC.out.mono ?_;rintro en2 w2 ⟨⟨r,rfl,hr⟩,hb2⟩;have hrz:r.size≤30000:=by have:=Jaj hr HF.out.d;omega
  have y1:¬9223372036854775807<3+r.size:=by omega
  have HFn:Hid (StrOut (showM 8 0 k z h d t.data.toList (dataL N) en) w (.returned (.string (⟨#[111,107,32]⟩++r))) w2):=hid ⟨⟨_,rfl,by rw [Jae,hr,Jbw];rfl⟩,HB1.out.trans (hb2.mono HB1.out.size)⟩;clear hr hb2 HC;go_wp2_with fail
  go_ret
  exact HFn.out
 have g8:(q==8)=false:=by rw [beq_eq_false_iff_ne];exact h8
 by_cases h6:q=6
 ·subst h6
  clear h1 h2 h3 h4 h5 h8;have HSm:Hid (showM 6 0 k z h d t.data.toList (dataL N) en=joinM (okL::pageM en (dataL N))):=hid rfl;obtain⟨s0,hs0,hz0⟩:∃s0:ByteArray,s0.data.toList=joinM (okL::pageM en (dataL (N.take 0)))∧s0.size≤10:=by
   cases en
   ·exact⟨⟨#[111,107]⟩,rfl,by decide⟩
   ·exact⟨⟨#[111,107,32,101,110,100]⟩,rfl,by decide⟩
  have h0:en=false→s0=⟨#[111,107]⟩:=fun h=>by subst h;exact Jak hs0
  have h1:en=true→s0=⟨#[111,107,32,101,110,100]⟩:=fun h=>by subst h;exact Jak hs0
  have HS0:=hid hs0;clear hs0;have Htail:Hid (Below W1.heap.size W1 W1):=hid (Below.refl _ _);rcases hen:en with _ |_
  ·have hs:=h0 hen
   subst hen;rw [hs] at HS0 hz0;have HSt:Hid ((⟨#[111,107]⟩:ByteArray).data.toList=joinM (okL::pageM false (dataL (N.take 0)))):=HS0;clear h0 h1 hs HS0;go_wp2_with fail
   go_loopw [5,6] (fun v5 v6 wr=>∃(j:Nat) (r:ByteArray),j≤N.length∧v6= .int .i64 (j:Int)∧v5= .string r∧r.size≤10+j*2097154∧Hid (r.data.toList=joinM (okL::pageM false (dataL (N.take j))))∧Hid (Below W1.heap.size W1 wr)) (fun _ v _=>N.length - (intOf v).toNat)
   case atStart=>exact⟨0,_,Nat.zero_le _,rfl,rfl,by decide,HSt,Htail⟩
   case round=>
    clear HSt;obtain⟨j,r,hj,rfl,rfl,hrz,hr,HBr⟩:=hrel;have j0:(0:Int)≤(j:Int):=by omega
    have ex:=(HBr.out.block _ (lt_of_some HX.out)).trans HX.out;unfold resB at ex;have d6:wr.cell? ⟨w.heap.size,6,none⟩=some (.slice A N.length c):=Jaa ex 6;have hrl:r.size≤300000000:=by have:j*2097154≤100*2097154:=Nat.mul_le_mul_right _ (by omega);omega
    clear ex;by_cases hjs:j<N.length
    ·have j1:(j:Int)<(N.length:Int):=by omega
     obtain⟨x,hxj⟩:∃x,N[j]?=some x:=⟨_,List.getElem?_eq_getElem hjs⟩
     obtain⟨b,off,hA,hb,hcx⟩:=(HS1.out.later HBr.out) j x hxj;subst hA;have hxs:=HF.out.N.2 x (List.mem_of_getElem? hxj);have HC:=hid (Jbo x wr (by omega));have HXj:=hid (show pageM false (dataL (N.take (j+1)))=pageM false (dataL (N.take j))++[hexL x.data.toList] by rw [Jay hxj,dataL,List.map_append];exact Jbm _ _ _);have HL:=hid (Jbl x.data.toList);have y0:¬9223372036854775807<r.size+1:=by omega
     clear hxj hb;go_wp2_with fail
     refine HC.out.mono ?_;rintro en2 w3 ⟨⟨u,rfl,hu⟩,hb3⟩;have huz:u.size≤2097153:=by have h1:=HL.out;rw [←hu,size_list,size_list] at h1;omega
     have y1:¬9223372036854775807<r.size+1+u.size:=by omega
     have H4:Hid ((r++⟨#[32]⟩++u).data.toList=joinM (okL::pageM false (dataL (N.take (j+1))))):=hid (by rw [HXj.out,Jej,←hr.out,←hu,Jae,Jae,List.append_assoc];rfl);have HB4:=hid (HBr.out.trans (hb3.mono HBr.out.size));have HZ4:Hid ((r++⟨#[32]⟩++u).size≤10+(j+1)*2097154):=hid (by rw [ByteArray.size_append,ByteArray.size_append];show r.size+1+u.size≤_;omega);clear hu hb3 HC hr HXj hcx d6;go_wp2_with fail
     go_roundw
     case rel=>exact⟨j+1,r++⟨#[32]⟩++u,by omega,by go_num,rfl,HZ4.out,H4,HB4⟩
     case measure=>simp [intOf];omega
    ·obtain rfl:j=N.length:=by omega
     have j1:¬(N.length:Int)<(N.length:Int):=by omega
     have h1:=hr.out;rw [List.take_length] at h1;have HFn:Hid (StrOut (showM 6 0 k z h d t.data.toList (dataL N) false) w (.returned (.string r)) wr):=hid ⟨⟨r,rfl,by rw [h1];rfl⟩,HB1.out.trans (HBr.out.mono HB1.out.size)⟩;clear h1 hr;go_wp2_with fail
     go_ret
     exact HFn.out
  ·have hs:=h1 hen
   subst hen;rw [hs] at HS0 hz0;have HSt:Hid ((⟨#[111,107,32,101,110,100]⟩:ByteArray).data.toList=joinM (okL::pageM true (dataL (N.take 0)))):=HS0;clear h0 h1 hs HS0;go_wp2_with fail
   go_loopw [5,6] (fun v5 v6 wr=>∃(j:Nat) (r:ByteArray),j≤N.length∧v6= .int .i64 (j:Int)∧v5= .string r∧r.size≤10+j*2097154∧Hid (r.data.toList=joinM (okL::pageM true (dataL (N.take j))))∧Hid (Below W1.heap.size W1 wr)) (fun _ v _=>N.length - (intOf v).toNat)
   case atStart=>exact⟨0,_,Nat.zero_le _,rfl,rfl,by decide,HSt,Htail⟩
   case round=>
    clear HSt;obtain⟨j,r,hj,rfl,rfl,hrz,hr,HBr⟩:=hrel;have j0:(0:Int)≤(j:Int):=by omega
    have ex:=(HBr.out.block _ (lt_of_some HX.out)).trans HX.out;unfold resB at ex;have d6:wr.cell? ⟨w.heap.size,6,none⟩=some (.slice A N.length c):=Jaa ex 6;have hrl:r.size≤300000000:=by have:j*2097154≤100*2097154:=Nat.mul_le_mul_right _ (by omega);omega
    clear ex;by_cases hjs:j<N.length
    ·have j1:(j:Int)<(N.length:Int):=by omega
     obtain⟨x,hxj⟩:∃x,N[j]?=some x:=⟨_,List.getElem?_eq_getElem hjs⟩
     obtain⟨b,off,hA,hb,hcx⟩:=(HS1.out.later HBr.out) j x hxj;subst hA;have hxs:=HF.out.N.2 x (List.mem_of_getElem? hxj);have HC:=hid (Jbo x wr (by omega));have HXj:=hid (show pageM true (dataL (N.take (j+1)))=pageM true (dataL (N.take j))++[hexL x.data.toList] by rw [Jay hxj,dataL,List.map_append];exact Jbm _ _ _);have HL:=hid (Jbl x.data.toList);have y0:¬9223372036854775807<r.size+1:=by omega
     clear hxj hb;go_wp2_with fail
     refine HC.out.mono ?_;rintro en2 w3 ⟨⟨u,rfl,hu⟩,hb3⟩;have huz:u.size≤2097153:=by have h1:=HL.out;rw [←hu,size_list,size_list] at h1;omega
     have y1:¬9223372036854775807<r.size+1+u.size:=by omega
     have H4:Hid ((r++⟨#[32]⟩++u).data.toList=joinM (okL::pageM true (dataL (N.take (j+1))))):=hid (by rw [HXj.out,Jej,←hr.out,←hu,Jae,Jae,List.append_assoc];rfl);have HB4:=hid (HBr.out.trans (hb3.mono HBr.out.size));have HZ4:Hid ((r++⟨#[32]⟩++u).size≤10+(j+1)*2097154):=hid (by rw [ByteArray.size_append,ByteArray.size_append];show r.size+1+u.size≤_;omega);clear hu hb3 HC hr HXj hcx d6;go_wp2_with fail
     go_roundw
     case rel=>exact⟨j+1,r++⟨#[32]⟩++u,by omega,by go_num,rfl,HZ4.out,H4,HB4⟩
     case measure=>simp [intOf];omega
    ·obtain rfl:j=N.length:=by omega
     have j1:¬(N.length:Int)<(N.length:Int):=by omega
     have h1:=hr.out;rw [List.take_length] at h1;have HFn:Hid (StrOut (showM 6 0 k z h d t.data.toList (dataL N) true) w (.returned (.string r)) wr):=hid ⟨⟨r,rfl,by rw [h1];rfl⟩,HB1.out.trans (HBr.out.mono HB1.out.size)⟩;clear h1 hr;go_wp2_with fail
     go_ret
     exact HFn.out
 have g6:(q==6)=false:=by rw [beq_eq_false_iff_ne];exact h6
 have HFn:Hid (StrOut (showM q 0 k z h d t.data.toList (dataL N) en) w (.returned (.string ⟨#[111,107]⟩)) W1):=hid ⟨⟨_,rfl,by
   rw [Jbw];unfold ansM;rw [if_neg h1,if_neg h2,if_neg (fun h=>h.elim h3 h4),if_neg (fun h=>h.elim h5 h8),if_neg h6];rfl⟩,HB1.out⟩
 clear h1 h2 h3 h4 h5 h8 h6;go_wp2_with fail
 go_ret
 exact HFn.out
end Go.Proofs.YtekekhgjobahaaaGreatDoor.cal
