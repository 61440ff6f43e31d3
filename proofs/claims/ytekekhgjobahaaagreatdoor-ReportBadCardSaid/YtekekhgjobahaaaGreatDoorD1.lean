import Derived.Test.YtekekhgjobahaaaGreatDoorD0
set_option maxHeartbeats 6400000
set_option maxRecDepth 100000
open Go.Lib (hid)
open Go.Proofs.Tryz
namespace Go.Proofs.YtekekhgjobahaaaGreatDoor.cal
open Go.RowKit words

theorem Jfl (l:List UInt8):(hexL l).length≤2*l.length+1:=by
 unfold hexL;split
 ·simp
 ·rw [Jc9];omega
theorem Jgb (m:Int) (k:Int) (p:ByteArray) (o n i:Int) (g:ByteArray) (w:World) (hE:Env m w):Calls prog 112 #[opV k p o n i g] w fun e w'=>e= .returned (.bool (rightM (opM k p o n i g)))∧Below w.heap.size w w':=by
 obtain⟨W1,hW1⟩:=words.nm (w.alloc (.cells #[.int .i64 k,.string p,.int .i64 o,.int .i64 n,.int .i64 i,.string g] 55));have hb1:=words.b1 hW1;have hx:W1.heap[w.heap.size]?=some (opB k p o n i g):=by rw [hW1];exact heap_alloc_new w _
 have HE:=hid (hE.later hb1);have HB1:=hid hb1;have HW:=hid hW1.symm;have HS:Hid (∀w':World,Below W1.heap.size W1 w'→(w'.cell? ⟨w.heap.size,0,none⟩=some (.int .i64 k)∧w'.cell? ⟨w.heap.size,1,none⟩=some (.string p)∧w'.cell? ⟨w.heap.size,2,none⟩=some (.int .i64 o)∧w'.cell? ⟨w.heap.size,3,none⟩=some (.int .i64 n)∧w'.cell? ⟨w.heap.size,4,none⟩=some (.int .i64 i)∧w'.cell? ⟨w.heap.size,5,none⟩=some (.string g))):=hid fun w' hb=>by
  have e:=(hb.block _ (lt_of_some hx)).trans hx;unfold opB at e;exact⟨Jaa e 0,Jaa e 1,Jaa e 2,Jaa e 3,Jaa e 4,Jaa e 5⟩
 have HBv:Hid (Below W1.heap.size W1 W1.drew):=hid (Below.refl _ _).drew;have HWd:Hid (∀w':World,Below W1.heap.size W1 w'→Calls prog 59 #[.int .i64 k] w' fun e w''=>(∃r:ByteArray,e= .returned (.string r)∧r.data.toList=wordL k)∧Below W1.heap.size W1 w''):=hid fun w' hb=>(Jt8 m k w' (HE.out.later hb)).mono fun e w'' ⟨h1,h2⟩=>⟨h1,hb.trans (h2.mono hb.size)⟩
 have HTd:Hid (∀w':World,Below W1.heap.size W1 w'→Calls prog 143 #[.agg #[.int .i64 k,.string p,.int .i64 o,.int .i64 n,.int .i64 i,.string g]] w' fun e w''=>(∃p' o' n' i' g',e= .returned (.agg #[.int .i64 k,.string p',.int .i64 o',.int .i64 n',.int .i64 i',.string g'])∧opM k p' o' n' i' g'=toldM (opM k p o n i g))∧Below W1.heap.size W1 w''):=hid fun w' hb=>(Ju1 k p o n i g w').mono fun e w'' ⟨h1,h2⟩=>⟨h1,hb.trans (h2.mono hb.size)⟩
 have HRM:Hid (rightM (opM k p o n i g)=(decide (wordL k≠[])&&(!decide (10∈p.data.toList))&&decide (opM k p o n i g=toldM (opM k p o n i g)))):=hid rfl;clear hW1 hb1 hx hE;unfold opV;go_enter func112,ntmps112
 go_upto_region 1 with fail
 rw [HW.out];clear HW;by_cases hw:wordL k=[]
 ·have HRF:Hid (rightM (opM k p o n i g)=false):=hid (by rw [HRM.out];simp [hw])
  have HWe:=hid hw;clear hw;refine wp_region_held_drew (S:=fun w'=>(w'.cell? ⟨w.heap.size,0,none⟩=some (.int .i64 k)∧w'.cell? ⟨w.heap.size,1,none⟩=some (.string p)∧w'.cell? ⟨w.heap.size,2,none⟩=some (.int .i64 o)∧w'.cell? ⟨w.heap.size,3,none⟩=some (.int .i64 n)∧w'.cell? ⟨w.heap.size,4,none⟩=some (.int .i64 i)∧w'.cell? ⟨w.heap.size,5,none⟩=some (.string g))) (by kernel_rfl) (HS.out _ HBv.out) (fun hHeld=>?_);refine words.tk 0 3 (v:=?_) ?_ ?_
  rotate_left 1
  ·intro _ h;(try dsimp only at h);go_simp;(try with_reducible rfl)
  try simp only [words.pt]
  refine words.tk 1 4 (v:=?_) ?_ ?_
  rotate_left 1
  ·intro _ h;(try dsimp only at h);go_simp;(try with_reducible rfl)
  try simp only [words.pt]
  refine wpAnyH_ready (rs:=[2]) (by kernel_rfl) (by simp) (.cons rfl (fun K hK=>?_) .nil);go_simp
  go_at_call 59
  refine (HWd.out _ HBv.out).mono ?_;rintro en v1 ⟨⟨r,rfl,hr⟩,hv1⟩;have f0:r.toList.isEmpty=true:=by rw [to_list,hr,HWe.out];rfl
  clear hHeld;refine hK.out _ _ (HS.out _ hv1) (fun hHeld=>?_);clear hK;refine words.tk 3 6 (v:=?_) ?_ ?_
  rotate_left 1
  ·intro _ h;(try dsimp only at h);go_simp;(try with_reducible rfl)
  try simp only [words.pt]
  refine words.tk 4 7 (v:=?_) ?_ ?_
  rotate_left 1
  ·intro _ h;(try dsimp only at h);go_simp;(try with_reducible rfl)
  try simp only [words.pt]
  refine wpAnyH_take (i:=5) (oi:=⟨some 8,_,_,_,_,_⟩) (v:=undef) rfl (by kernel_rfl) (by kernel_rfl) (by kernel_rfl) (fun _ _ _ h=>h) (Or.inr ⟨by kernel_rfl,rfl⟩) (by assumption) ?_;try simp only [words.pt]
  refine wpAnyH_take (i:=6) (oi:=⟨some 9,_,_,_,_,_⟩) (v:=undef) rfl (by kernel_rfl) (by kernel_rfl) (by kernel_rfl) (fun _ _ _ h=>h) (Or.inr ⟨by kernel_rfl,rfl⟩) (by assumption) ?_;try simp only [words.pt]
  refine wpAnyH_take (i:=7) (oi:=⟨some 10,_,_,_,_,_⟩) (v:=undef) rfl (by kernel_rfl) (by kernel_rfl) (by kernel_rfl) (fun _ _ _ h=>h) (Or.inr ⟨by kernel_rfl,rfl⟩) (by assumption) ?_;try simp only [words.pt]
  refine wpAnyH_take (i:=8) (oi:=⟨some 11,_,_,_,_,_⟩) (v:=undef) rfl (by kernel_rfl) (by kernel_rfl) (by kernel_rfl) (fun _ _ _ h=>h) (Or.inr ⟨by kernel_rfl,rfl⟩) (by assumption) ?_;try simp only [words.pt]
  refine words.tk 9 12 (v:=?_) ?_ ?_
  rotate_left 1
  ·intro _ h;(try dsimp only at h);go_simp;(try with_reducible rfl)
  try simp only [words.pt]
  refine words.tk 10 13 (v:=?_) ?_ ?_
  rotate_left 1
  ·intro _ h;(try dsimp only at h);go_simp;(try with_reducible rfl)
  try simp only [words.pt]
  refine wpAnyH_take (i:=11) (oi:=⟨some 14,_,_,_,_,_⟩) (v:=undef) rfl (by kernel_rfl) (by kernel_rfl) (by kernel_rfl) (fun _ _ _ h=>h) (Or.inr ⟨by kernel_rfl,rfl⟩) (by assumption) ?_;try simp only [words.pt]
  refine wpAnyH_take (i:=12) (oi:=⟨some 15,_,_,_,_,_⟩) (v:=undef) rfl (by kernel_rfl) (by kernel_rfl) (by kernel_rfl) (fun _ _ _ h=>h) (Or.inr ⟨by kernel_rfl,rfl⟩) (by assumption) ?_;try simp only [words.pt]
  refine wpAnyH_take (i:=13) (oi:=⟨some 16,_,_,_,_,_⟩) (v:=undef) rfl (by kernel_rfl) (by kernel_rfl) (by kernel_rfl) (fun _ _ _ h=>h) (Or.inr ⟨by kernel_rfl,rfl⟩) (by assumption) ?_;try simp only [words.pt]
  refine wpAnyH_take (i:=14) (oi:=⟨some 17,_,_,_,_,_⟩) (v:=undef) rfl (by kernel_rfl) (by kernel_rfl) (by kernel_rfl) (fun _ _ _ h=>h) (Or.inr ⟨by kernel_rfl,rfl⟩) (by assumption) ?_;try simp only [words.pt]
  refine words.tk 15 18 (v:=?_) ?_ ?_
  rotate_left 1
  ·intro _ h;(try dsimp only at h);go_simp;(try with_reducible rfl)
  try simp only [words.pt]
  refine words.tk 16 2 (v:=?_) ?_ ?_
  rotate_left 1
  ·intro _ h;(try dsimp only at h);go_simp;(try with_reducible rfl)
  try simp only [words.pt]
  refine wpAnyH_done (by kernel_rfl) ?_ _;clear hHeld hr HS HBv HWd HTd;go_wp2_with fail
  go_ret
  exact⟨by rw [HRF.out];rfl,HB1.out.trans (hv1.mono HB1.out.size)⟩
 have HWe:=hid hw;have HCt0:Hid (∀w':World,Calls prog 142 #[.string p,.string ⟨#[10]⟩] w' fun e w''=>e= .returned (.bool (decide (10∈p.data.toList)))∧w''=w'):=hid fun w'=>contains10 p w';by_cases h10:10∈p.data.toList
 ·have hd:decide (10∈p.data.toList)=true:=decide_eq_true h10
  have HRF:Hid (rightM (opM k p o n i g)=false):=hid (by rw [HRM.out,hd];simp);have HCt:=HCt0;rw [hd] at HCt;clear hw h10 hd HCt0;refine wp_region_held_drew (S:=fun w'=>(w'.cell? ⟨w.heap.size,0,none⟩=some (.int .i64 k)∧w'.cell? ⟨w.heap.size,1,none⟩=some (.string p)∧w'.cell? ⟨w.heap.size,2,none⟩=some (.int .i64 o)∧w'.cell? ⟨w.heap.size,3,none⟩=some (.int .i64 n)∧w'.cell? ⟨w.heap.size,4,none⟩=some (.int .i64 i)∧w'.cell? ⟨w.heap.size,5,none⟩=some (.string g))) (by kernel_rfl) (HS.out _ HBv.out) (fun hHeld=>?_);refine words.tk 0 3 (v:=?_) ?_ ?_
  rotate_left 1
  ·intro _ h;(try dsimp only at h);go_simp;(try with_reducible rfl)
  try simp only [words.pt]
  refine words.tk 1 4 (v:=?_) ?_ ?_
  rotate_left 1
  ·intro _ h;(try dsimp only at h);go_simp;(try with_reducible rfl)
  try simp only [words.pt]
  refine wpAnyH_ready (rs:=[2]) (by kernel_rfl) (by simp) (.cons rfl (fun K hK=>?_) .nil);go_simp
  go_at_call 59
  refine (HWd.out _ HBv.out).mono ?_;rintro en v1 ⟨⟨r,rfl,hr⟩,hv1⟩;have f0:r.toList.isEmpty=false:=by rw [to_list,hr];simpa using HWe.out
  clear hHeld;refine hK.out _ _ (HS.out _ hv1) (fun hHeld=>?_);clear hK;refine words.tk 3 6 (v:=?_) ?_ ?_
  rotate_left 1
  ·intro _ h;(try dsimp only at h);go_simp;(try with_reducible rfl)
  try simp only [words.pt]
  refine words.tk 4 7 (v:=?_) ?_ ?_
  rotate_left 1
  ·intro _ h;(try dsimp only at h);go_simp;(try with_reducible rfl)
  try simp only [words.pt]
  refine words.tk 5 8 (v:=?_) ?_ ?_
  rotate_left 1
  ·intro _ h;(try dsimp only at h);go_simp;(try with_reducible rfl)
  try simp only [words.pt]
  refine words.tk 6 9 (v:=?_) ?_ ?_
  rotate_left 1
  ·intro _ h;(try dsimp only at h);go_simp;(try with_reducible rfl)
  try simp only [words.pt]
  refine wpAnyH_ready (rs:=[7]) (by kernel_rfl) (by simp) (.cons rfl (fun K hK=>?_) .nil);go_simp
  go_at_call 142
  refine (HCt.out _).mono ?_;rintro en v2 ⟨rfl,rfl⟩;clear hHeld;refine hK.out _ _ (HS.out _ hv1) (fun hHeld=>?_);clear hK;refine words.tk 8 11 (v:=?_) ?_ ?_
  rotate_left 1
  ·intro _ h;(try dsimp only at h);go_simp;(try with_reducible rfl)
  try simp only [words.pt]
  refine words.tk 9 12 (v:=?_) ?_ ?_
  rotate_left 1
  ·intro _ h;(try dsimp only at h);go_simp;(try with_reducible rfl)
  try simp only [words.pt]
  refine words.tk 10 13 (v:=?_) ?_ ?_
  rotate_left 1
  ·intro _ h;(try dsimp only at h);go_simp;(try with_reducible rfl)
  try simp only [words.pt]
  refine wpAnyH_take (i:=11) (oi:=⟨some 14,_,_,_,_,_⟩) (v:=undef) rfl (by kernel_rfl) (by kernel_rfl) (by kernel_rfl) (fun _ _ _ h=>h) (Or.inr ⟨by kernel_rfl,rfl⟩) (by assumption) ?_;try simp only [words.pt]
  refine wpAnyH_take (i:=12) (oi:=⟨some 15,_,_,_,_,_⟩) (v:=undef) rfl (by kernel_rfl) (by kernel_rfl) (by kernel_rfl) (fun _ _ _ h=>h) (Or.inr ⟨by kernel_rfl,rfl⟩) (by assumption) ?_;try simp only [words.pt]
  refine wpAnyH_take (i:=13) (oi:=⟨some 16,_,_,_,_,_⟩) (v:=undef) rfl (by kernel_rfl) (by kernel_rfl) (by kernel_rfl) (fun _ _ _ h=>h) (Or.inr ⟨by kernel_rfl,rfl⟩) (by assumption) ?_;try simp only [words.pt]
  refine wpAnyH_take (i:=14) (oi:=⟨some 17,_,_,_,_,_⟩) (v:=undef) rfl (by kernel_rfl) (by kernel_rfl) (by kernel_rfl) (fun _ _ _ h=>h) (Or.inr ⟨by kernel_rfl,rfl⟩) (by assumption) ?_;try simp only [words.pt]
  refine words.tk 15 18 (v:=?_) ?_ ?_
  rotate_left 1
  ·intro _ h;(try dsimp only at h);go_simp;(try with_reducible rfl)
  try simp only [words.pt]
  refine words.tk 16 2 (v:=?_) ?_ ?_
  rotate_left 1
  ·intro _ h;(try dsimp only at h);go_simp;(try with_reducible rfl)
  try simp only [words.pt]
  refine wpAnyH_done (by kernel_rfl) ?_ _;clear hHeld hr HS HBv HWd HTd;go_wp2_with fail
  go_ret
  exact⟨by rw [HRF.out];rfl,HB1.out.trans (hv1.mono HB1.out.size)⟩
 have hd:decide (10∈p.data.toList)=false:=decide_eq_false h10;have HRT:Hid (rightM (opM k p o n i g)=decide (opM k p o n i g=toldM (opM k p o n i g))):=hid (by rw [HRM.out,hd];simp [hw]);have heq:=Jx1;have HCt:=HCt0;rw [hd] at HCt;clear hw h10 hd HCt0;refine wp_region_held_drew (S:=fun w'=>(w'.cell? ⟨w.heap.size,0,none⟩=some (.int .i64 k)∧w'.cell? ⟨w.heap.size,1,none⟩=some (.string p)∧w'.cell? ⟨w.heap.size,2,none⟩=some (.int .i64 o)∧w'.cell? ⟨w.heap.size,3,none⟩=some (.int .i64 n)∧w'.cell? ⟨w.heap.size,4,none⟩=some (.int .i64 i)∧w'.cell? ⟨w.heap.size,5,none⟩=some (.string g))) (by kernel_rfl) (HS.out _ HBv.out) (fun hHeld=>?_);refine words.tk 0 3 (v:=?_) ?_ ?_
 rotate_left 1
 ·intro _ h;(try dsimp only at h);go_simp;(try with_reducible rfl)
 try simp only [words.pt]
 refine words.tk 1 4 (v:=?_) ?_ ?_
 rotate_left 1
 ·intro _ h;(try dsimp only at h);go_simp;(try with_reducible rfl)
 try simp only [words.pt]
 refine wpAnyH_ready (rs:=[2]) (by kernel_rfl) (by simp) (.cons rfl (fun K hK=>?_) .nil);go_simp
 go_at_call 59
 refine (HWd.out _ HBv.out).mono ?_;rintro en v1 ⟨⟨r,rfl,hr⟩,hv1⟩;have f0:r.toList.isEmpty=false:=by rw [to_list,hr];simpa using HWe.out
 clear hHeld;refine hK.out _ _ (HS.out _ hv1) (fun hHeld=>?_);clear hK;refine words.tk 3 6 (v:=?_) ?_ ?_
 rotate_left 1
 ·intro _ h;(try dsimp only at h);go_simp;(try with_reducible rfl)
 try simp only [words.pt]
 refine words.tk 4 7 (v:=?_) ?_ ?_
 rotate_left 1
 ·intro _ h;(try dsimp only at h);go_simp;(try with_reducible rfl)
 try simp only [words.pt]
 refine words.tk 5 8 (v:=?_) ?_ ?_
 rotate_left 1
 ·intro _ h;(try dsimp only at h);go_simp;(try with_reducible rfl)
 try simp only [words.pt]
 refine words.tk 6 9 (v:=?_) ?_ ?_
 rotate_left 1
 ·intro _ h;(try dsimp only at h);go_simp;(try with_reducible rfl)
 try simp only [words.pt]
 refine wpAnyH_ready (rs:=[7]) (by kernel_rfl) (by simp) (.cons rfl (fun K hK=>?_) .nil);go_simp
 go_at_call 142
 refine (HCt.out _).mono ?_;rintro en v2 ⟨rfl,rfl⟩;clear hHeld;refine hK.out _ _ (HS.out _ hv1) (fun hHeld=>?_);clear hK;refine words.tk 8 11 (v:=?_) ?_ ?_
 rotate_left 1
 ·intro _ h;(try dsimp only at h);go_simp;(try with_reducible rfl)
 try simp only [words.pt]
 refine words.tk 9 12 (v:=?_) ?_ ?_
 rotate_left 1
 ·intro _ h;(try dsimp only at h);go_simp;(try with_reducible rfl)
 try simp only [words.pt]
 refine words.tk 10 13 (v:=?_) ?_ ?_
 rotate_left 1
 ·intro _ h;(try dsimp only at h);go_simp;(try with_reducible rfl)
 try simp only [words.pt]
 refine words.tk 11 14 (v:=?_) ?_ ?_
 rotate_left 1
 ·intro _ h;(try dsimp only at h);go_simp;(try with_reducible rfl)
 try simp only [words.pt]
 refine words.tk 12 15 (v:=?_) ?_ ?_
 rotate_left 1
 ·intro _ h;(try dsimp only at h);go_simp;(try with_reducible rfl)
 try simp only [words.pt]
 refine wpAnyH_ready (rs:=[13]) (by kernel_rfl) (by simp) (.cons rfl (fun K hK=>?_) .nil);go_simp
 go_at_call 143
 refine (HTd.out _ hv1).mono ?_;rintro en v3 ⟨⟨p',o',n',i',g',rfl,hm⟩,hv3⟩;clear hHeld;refine hK.out _ _ (HS.out _ hv3) (fun hHeld=>?_);clear hK;refine words.tk 14 17 (v:=?_) ?_ ?_
 rotate_left 1
 ·intro _ h;(try dsimp only at h);go_simp;(try with_reducible rfl)
 try simp only [words.pt]
 refine words.tk 15 18 (v:=?_) ?_ ?_
 rotate_left 1
 ·intro _ h;(try dsimp only at h);go_simp;(try with_reducible rfl)
 try simp only [words.pt]
 refine words.tk 16 2 (v:=?_) ?_ ?_
 rotate_left 1
 ·intro _ h;(try dsimp only at h);go_simp;(try with_reducible rfl)
 try simp only [words.pt]
 refine wpAnyH_done (by kernel_rfl) ?_ _;clear hHeld hr HS HBv HWd HTd;have HM:=hid hm;clear hm;go_wp2_with fail
 go_ret
 exact⟨by rw [HRT.out,←HM.out];rfl,HB1.out.trans (hv3.mono HB1.out.size)⟩

def resV (e k z h d:Int) (t:ByteArray) (A:Option Addr) (N:List ByteArray) (c:Nat) (en:Bool):Value:= .agg #[.int .i64 e,.int .i64 k,.int .i64 z,.int .i64 h,.int .i64 d,.string t,.slice A N.length c,.bool en]
def resB (e k z h d:Int) (t:ByteArray) (A:Option Addr) (N:List ByteArray) (c:Nat) (en:Bool):Obj:= .cells #[.int .i64 e,.int .i64 k,.int .i64 z,.int .i64 h,.int .i64 d,.string t,.slice A N.length c,.bool en] 57 (0,0)
def endL:List UInt8:=[101,110,100]
def pageM (en:Bool) (N:List (List UInt8)):List (List UInt8):=(if en then [endL] else [])++N.map hexL
def Few (N:List ByteArray):Prop:=N.length≤100∧∀x∈N,x.size≤1048576
theorem Juz {α:Type} {L:List α} {i:Nat} {x:α} (h:L[i]?=some x):L.take (i+1)=L.take i++[x]:=by
 obtain⟨hi,rfl⟩:=List.getElem?_eq_some_iff.1 h;exact List.take_succ_eq_append_getElem hi
structure Got (w:World) (L:List (List UInt8)) (v:Value) (Q:List ByteArray) (wr:World):Prop where
 row:wr.ownsRow w.heap.size 9 1 v Q.length (Q.map Value.string)
 data:dataL Q=L
 low:Below w.heap.size w wr
theorem Got.later {w:World} {L:List (List UInt8)} {v:Value} {Q:List ByteArray} {wr w':World} (h:Got w L v Q wr) (hb:Below wr.heap.size wr w'):Got w L v Q w':=⟨Jai h.row hb,h.data,h.low.trans (hb.mono h.low.size)⟩
theorem Got.val {w:World} {L:List (List UInt8)} {v:Value} {Q:List ByteArray} {wr:World} (h:Got w L v Q wr):∃A c,v= .slice A Q.length c∧Sl wr A Q∧(A=none→Q.length=0∧c=0):=by
 rcases h.row.2 with⟨rfl,h0⟩ |⟨g,cap,cur,rfl,_,hg,_⟩
 ·refine⟨none,0,by rw [h0],fun i x hx=>?_,fun _=>⟨h0,rfl⟩⟩
  have:=(List.getElem?_eq_some_iff.1 hx).1;omega
 ·refine⟨_,_,rfl,fun i x hx=>⟨g,0,rfl,lt_of_some hg,?_⟩,fun h=>by cases h⟩
  have:=h.row.cells (g:=g) rfl i (.string x) (by rw [List.getElem?_map,hx];rfl);rw [add_place] at this;exact this
theorem Got.more {w:World} {L:List (List UInt8)} {v v':Value} {Q:List ByteArray} {wr w1 w2:World} (h:Got w L v Q wr) (hb:Below wr.heap.size wr w1) (r:ByteArray) (hg:w1.grownBy w2 v.ownBlock) (ho:w2.ownsRow w.heap.size 9 1 v' (Q.length+1) (Q.map Value.string++[.string r])):Got w (L++[r.data.toList]) v' (Q++[r]) w2:=by
 have h1:=h.later hb;refine⟨?_,by rw [←h.data];simp [dataL],keep_grown h1.low h1.row hg (Nat.le_refl _)⟩;rw [List.length_append,List.map_append];exact ho

def ansM (q k z h d:Int) (t:List UInt8) (N:List (List UInt8)) (en:Bool):List (List UInt8):=
 if q=1 then [Lib.itoa k,Lib.itoa h] else if q=2 then [Lib.itoa k,Lib.itoa z] else if q=3∨q=4 then [hexL t] else if q=5∨q=8 then [Lib.itoa d] else if q=6 then pageM en N else []
def okL:List UInt8:=[111,107]
def errL:List UInt8:=[101,114,114,111,114]
def showM (q e k z h d:Int) (t:List UInt8) (N:List (List UInt8)) (en:Bool):List UInt8:=if e=0 then joinM (okL::ansM q k z h d t N en) else joinM [errL,Lib.itoa e]
structure ResFit (e k z h d:Int) (t:ByteArray) (N:List ByteArray):Prop where
 e:I64 e
 k:I64 k
 z:I64 z
 h:I64 h
 d:I64 d
 t:t.size≤10000
 N:Few N
theorem join_cons (a:List UInt8):∀L:List (List UInt8),joinM (a::L)=a++L.flatMap (fun x=>32::x)
 |[]=>by simp [joinM]
 |b::r=>by
  show a++32::joinM (b::r)=_;rw [join_cons b r];simp
theorem Jmg (n:Nat):∀L:List (List UInt8),(∀x∈L,x.length≤n)→(L.flatMap (fun x=>32::x)).length≤L.length*(n+1)
 |[],_=>by simp
 |x::L,h=>by
  have h1:=Jmg n L fun y hy=>h y (List.mem_cons_of_mem _ hy);have h2:=h x (List.mem_cons_self ..);simp only [List.flatMap_cons,List.length_append,List.length_cons];have:(L.length+1)*(n+1)=L.length*(n+1)+(n+1):=by rw [Nat.add_mul,Nat.one_mul]
  omega
theorem Jxe {q e k z h d:Int} {t:ByteArray} {N:List ByteArray} {en:Bool} (hf:ResFit e k z h d t N):(∀x∈ansM q k z h d t.data.toList (dataL N) en,x.length≤2097153)∧(ansM q k z h d t.data.toList (dataL N) en).length≤101:=by
 have a1:=Lib.itoa_length_le k hf.k.1 hf.k.2;have a2:=Lib.itoa_length_le h hf.h.1 hf.h.2;have a3:=Lib.itoa_length_le z hf.z.1 hf.z.2;have a4:=Lib.itoa_length_le d hf.d.1 hf.d.2;have a5:=Jfl t.data.toList;rw [size_list] at a5;have a6:=hf.t;have a7:∀x∈N,(hexL x.data.toList).length≤2097153:=fun x hx=>by
  have h1:=Jfl x.data.toList;rw [size_list] at h1;have:=hf.N.2 x hx;omega
 have a8:=hf.N.1;unfold ansM;split
 ·refine⟨fun x hx=>?_,by simp⟩
  simp only [List.mem_cons,List.mem_nil_iff,or_false] at hx;rcases hx with rfl |rfl<;>omega
 split
 ·refine⟨fun x hx=>?_,by simp⟩
  simp only [List.mem_cons,List.mem_nil_iff,or_false] at hx;rcases hx with rfl |rfl<;>omega
 split
 ·refine⟨fun x hx=>?_,by simp⟩
  simp only [List.mem_cons,List.mem_nil_iff,or_false] at hx;subst hx;omega
 split
 ·refine⟨fun x hx=>?_,by simp⟩
  simp only [List.mem_cons,List.mem_nil_iff,or_false] at hx;subst hx;omega
 split
 ·unfold pageM dataL
  refine⟨fun x hx=>?_,?_⟩
  ·rcases List.mem_append.1 hx with hx |hx
   ·cases en with
    |true=>
     simp only [if_true,List.mem_cons,List.mem_nil_iff,or_false] at hx;subst hx;decide
    |false=>simp at hx
   ·rw [List.map_map] at hx
    obtain⟨y,hy,rfl⟩:=List.mem_map.1 hx;exact a7 y hy
  ·cases en<;>simp<;>omega
 ·exact⟨fun x hx=>by simp at hx,by simp⟩
theorem Jtc (m:Int) (q e k z h d:Int) (t:ByteArray) (A:Option Addr) (N:List ByteArray) (c:Nat) (en:Bool) (w:World) (hE:Env m w) (_:Sl w A N) (hf:ResFit e k z h d t N) (he0:e≠0):
  Calls prog 34 #[.int .i64 q,resV e k z h d t A N c en] w (StrOut (showM q e k z h d t.data.toList (dataL N) en) w):=by
 obtain⟨W1,hW1⟩:=words.nm (w.alloc (.cells #[.int .i64 e,.int .i64 k,.int .i64 z,.int .i64 h,.int .i64 d,.string t,.slice A N.length c,.bool en] 57));have hb1:=words.b1 hW1;have hx:W1.heap[w.heap.size]?=some (resB e k z h d t A N c en):=by rw [hW1];exact heap_alloc_new w _
 have HE:=hid (hE.later hb1);have HF:=hid hf;have HE0:=hid he0;clear he0;have HB1:=hid hb1;have HW:=hid hW1.symm;unfold resB at hx;have c0:W1.cell? ⟨w.heap.size,0,none⟩=some (.int .i64 e):=Jaa hx 0;have c1:W1.cell? ⟨w.heap.size,1,none⟩=some (.int .i64 k):=Jaa hx 1;have c2:W1.cell? ⟨w.heap.size,2,none⟩=some (.int .i64 z):=Jaa hx 2;have c3:W1.cell? ⟨w.heap.size,3,none⟩=some (.int .i64 h):=Jaa hx 3;have c4:W1.cell? ⟨w.heap.size,4,none⟩=some (.int .i64 d):=Jaa hx 4;have c5:W1.cell? ⟨w.heap.size,5,none⟩=some (.string t):=Jaa hx 5;have c6:W1.cell? ⟨w.heap.size,6,none⟩=some (.slice A N.length c):=Jaa hx 6;have c7:W1.cell? ⟨w.heap.size,7,none⟩=some (.bool en):=Jaa hx 7;clear hW1 hb1 hx hE hf;unfold resV;go_enter func34,ntmps34
 go_upto_region 1 with fail
 rw [HW.out];clear HW;by_cases he:e=0
 ·exact absurd he HE0.out
 ·have ge:(e !=0)=true:=by rw [bne_iff_ne];exact he
  have HM:Hid (showM q e k z h d t.data.toList (dataL N) en=joinM [errL,Lib.itoa e]):=hid (if_neg he);have HI:=hid (Jc1 m e W1 HF.out.e HE.out);clear he;go_wp2_with fail
  refine HI.out.mono ?_;rintro en2 w2 ⟨⟨r,rfl,hr⟩,hb2⟩;obtain⟨W3,hW3⟩:=words.nm (w2.alloc (.cells #[.string r] 9));have hb3:Below w2.heap.size w2 W3:=words.b1 hW3;have hS:Sl W3 (some ⟨w2.heap.size,0,none⟩) [r]:=by rw [hW3];exact Jhg w2 [r]
  have hrl:=Lib.itoa_length_le e HF.out.e.1 HF.out.e.2;have hjl:(joinM ((⟨#[101,114,114,111,114]⟩:ByteArray).data.toList::dataL [r])).length≤1000000000:=by
   rw [join_cons];simp only [dataL,List.map_cons,List.map_nil,List.flatMap_cons,List.flatMap_nil,List.append_nil,List.length_append,List.length_cons,hr];simp;omega
  have HJ:=hid (Jod ⟨#[101,114,114,111,114]⟩ (some ⟨w2.heap.size,0,none⟩) 1 [r] W3 hS (fun h=>by cases h) hjl (by simp));have hdt:dataL [r]=[Lib.itoa e]:=by rw [←hr];rfl
  rw [hdt] at HJ;have HB3:=hid (HB1.out.trans ((hb2.trans (hb3.mono hb2.size)).mono HB1.out.size));have HW3:=hid hW3.symm;have t1:([r]:List ByteArray).length=1:=rfl;clear hr hb2 hW3 hb3 hS hrl hjl hdt HI c0 c1 c2 c3 c4 c5 c6 c7;go_wp2_with fail
  rw [HW3.out];refine HJ.out.mono ?_;rintro en3 w4 ⟨⟨u,rfl,hu⟩,hb4⟩;have HFn:Hid (StrOut (showM q e k z h d t.data.toList (dataL N) en) w (.returned (.string u)) w4):=hid ⟨⟨u,rfl,by rw [hu,HM.out];rfl⟩,HB3.out.trans (hb4.mono HB3.out.size)⟩;clear hu hb4 HJ;go_wp2_with fail
  go_ret
  exact HFn.out

theorem Jim {r:ByteArray} {n:Int} (hr:r.data.toList=Lib.itoa n) (hn:I64 n):r.size≤21:=by
 rw [←size_list,hr];exact Lib.itoa_length_le n hn.1 hn.2

end Go.Proofs.YtekekhgjobahaaaGreatDoor.cal
