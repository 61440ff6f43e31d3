import Derived.Test.YtcoimjbhoiipoaaGreatDoorG7
set_option maxHeartbeats 6400000
set_option maxRecDepth 100000
open Go.Lib (hid)
open Go.Proofs.Tryz
namespace Go.Proofs.YtcoimjbhoiipoaaGreatDoor.cal
open Go.RowKit words

def opI (k:Int) (p:ByteArray) (o n i:Int) (g:ByteArray) (k':Int) (p':ByteArray) (o' n' i':Int) (g':ByteArray):Bool:=decide (opM k p o n i g=opM k' p' o' n' i' g')
theorem Jrw (k:Int) (p:ByteArray) (o n i:Int) (g:ByteArray) (k':Int) (p':ByteArray) (o' n' i':Int) (g':ByteArray) (w:World):
  (binOp .eql 51 (.agg #[.int .i64 k,.string p,.int .i64 o,.int .i64 n,.int .i64 i,.string g]) (.agg #[.int .i64 k',.string p',.int .i64 o',.int .i64 n',.int .i64 i',.string g'])).run prog w= .ok (.bool (opI k p o n i g k' p' o' n' i' g')) w:=by
 have e:opI k p o n i g k' p' o' n' i' g'=(k==k'&&(p.toList==p'.toList&&(o==o'&&(n==n'&&(i==i'&&g.toList==g'.toList))))):=by
  unfold opI opM;rw [Bool.eq_iff_iff];simp [to_list]
 rw [e];go_simp
 by_cases h1:k=k'<;>by_cases h2:p.toList=p'.toList<;>by_cases h3:o=o'<;>by_cases h4:n=n'<;>by_cases h5:i=i'<;>by_cases h6:g.toList=g'.toList<;>simp [h1,h2,h3,h4,h5,h6]
theorem contains10 (p:ByteArray) (w:World):Calls prog 97 #[.string p,.string ⟨#[10]⟩] w fun e w'=>e= .returned (.bool (decide (10∈p.data.toList)))∧w'=w:=by
 refine (Tryz.strings_Contains_one p 10 w).mono fun e w' ⟨h1,h2⟩=>⟨?_,h2⟩
 rw [h1];congr 2;rw [Bool.eq_iff_iff];simp only [decide_eq_true_eq];constructor
 ·intro h
  have:=Lib.indexByte_some (l:=p.data.toList) (c:=10) (o:=(Lib.indexByte p.data.toList 10).toNat) (by omega);exact List.mem_of_getElem? this.1
 ·intro h
  rcases Lib.indexByte_ge p.data.toList 10 with hg;by_cases hn:Lib.indexByte p.data.toList 10= -1
  ·obtain⟨i,hi⟩:=List.getElem?_of_mem h
   exact absurd hi (Lib.indexByte_none hn i)
  ·have:=Lib.indexByte_ge p.data.toList 10
   omega
theorem Jfe (m:Int) (k:Int) (p:ByteArray) (o n i:Int) (g:ByteArray) (w:World) (hE:Env m w):Calls prog 73 #[opV k p o n i g] w fun e w'=>e= .returned (.bool (rightM (opM k p o n i g)))∧Below w.heap.size w w':=by
 obtain⟨W1,hW1⟩:=words.nm (w.alloc (.cells #[.int .i64 k,.string p,.int .i64 o,.int .i64 n,.int .i64 i,.string g] 51));have hb1:=words.b1 hW1;have hx:W1.heap[w.heap.size]?=some (opB k p o n i g):=by rw [hW1];exact heap_alloc_new w _
 have HE:=hid (hE.later hb1);have HB1:=hid hb1;have HW:=hid hW1.symm;have HS:Hid (∀w':World,Below W1.heap.size W1 w'→(w'.cell? ⟨w.heap.size,0,none⟩=some (.int .i64 k)∧w'.cell? ⟨w.heap.size,1,none⟩=some (.string p)∧w'.cell? ⟨w.heap.size,2,none⟩=some (.int .i64 o)∧w'.cell? ⟨w.heap.size,3,none⟩=some (.int .i64 n)∧w'.cell? ⟨w.heap.size,4,none⟩=some (.int .i64 i)∧w'.cell? ⟨w.heap.size,5,none⟩=some (.string g))):=hid fun w' hb=>by
  have e:=(hb.block _ (lt_of_some hx)).trans hx;unfold opB at e;exact⟨Jaa e 0,Jaa e 1,Jaa e 2,Jaa e 3,Jaa e 4,Jaa e 5⟩
 have HBv:Hid (Below W1.heap.size W1 W1.drew):=hid (Below.refl _ _).drew;have HWd:Hid (∀w':World,Below W1.heap.size W1 w'→Calls prog 96 #[.int .i64 k] w' fun e w''=>(∃r:ByteArray,e= .returned (.string r)∧r.data.toList=wordL k)∧Below W1.heap.size W1 w''):=hid fun w' hb=>(Jo0 m k w' (HE.out.later hb)).mono fun e w'' ⟨h1,h2⟩=>⟨h1,hb.trans (h2.mono hb.size)⟩
 have HTd:Hid (∀w':World,Below W1.heap.size W1 w'→Calls prog 98 #[.agg #[.int .i64 k,.string p,.int .i64 o,.int .i64 n,.int .i64 i,.string g]] w' fun e w''=>(∃p' o' n' i' g',e= .returned (.agg #[.int .i64 k,.string p',.int .i64 o',.int .i64 n',.int .i64 i',.string g'])∧opM k p' o' n' i' g'=toldM (opM k p o n i g))∧Below W1.heap.size W1 w''):=hid fun w' hb=>(Jph k p o n i g w').mono fun e w'' ⟨h1,h2⟩=>⟨h1,hb.trans (h2.mono hb.size)⟩
 have HRM:Hid (rightM (opM k p o n i g)=(decide (wordL k≠[])&&(!decide (10∈p.data.toList))&&decide (opM k p o n i g=toldM (opM k p o n i g)))):=hid rfl;clear hW1 hb1 hx hE;unfold opV;go_enter func73,ntmps73
 go_upto_region 1 with fail
 rw [HW.out];clear HW;by_cases hw:wordL k=[]
 ·have HRF:Hid (rightM (opM k p o n i g)=false):=hid (by rw [HRM.out];simp [hw])
  have HWe:=hid hw;clear hw;refine wp_region_held_drew (S:=fun w'=>(w'.cell? ⟨w.heap.size,0,none⟩=some (.int .i64 k)∧w'.cell? ⟨w.heap.size,1,none⟩=some (.string p)∧w'.cell? ⟨w.heap.size,2,none⟩=some (.int .i64 o)∧w'.cell? ⟨w.heap.size,3,none⟩=some (.int .i64 n)∧w'.cell? ⟨w.heap.size,4,none⟩=some (.int .i64 i)∧w'.cell? ⟨w.heap.size,5,none⟩=some (.string g))) (by kernel_rfl) (HS.out _ HBv.out) (fun hHeld=>?_);refine words.tk 0 3 (v:=?_) ?_ ?_
  rotate_left 1
  ·intro _ h;(try dsimp only at h);go_simp;(try with_reducible rfl)
  try simp only [words.pt]
  refine words.tk 1 4 (v:=?_) ?_ ?_
  rotate_left 1
  ·intro _ h;(try dsimp only at h);go_simp;(try with_reducible rfl)
  try simp only [words.pt]
  refine wpAnyH_ready (rs:=[2]) (by kernel_rfl) (by simp) (.cons rfl (fun K hK=>?_) .nil);go_simp
  go_at_call 96
  refine (HWd.out _ HBv.out).mono ?_;rintro en v1 ⟨⟨r,rfl,hr⟩,hv1⟩;have f0:r.toList.isEmpty=true:=by rw [to_list,hr,HWe.out];rfl
  clear hHeld;refine hK.out _ _ (HS.out _ hv1) (fun hHeld=>?_);clear hK;refine words.tk 3 6 (v:=?_) ?_ ?_
  rotate_left 1
  ·intro _ h;(try dsimp only at h);go_simp;(try with_reducible rfl)
  try simp only [words.pt]
  refine words.tk 4 7 (v:=?_) ?_ ?_
  rotate_left 1
  ·intro _ h;(try dsimp only at h);go_simp;(try with_reducible rfl)
  try simp only [words.pt]
  refine wpAnyH_take (i:=5) (oi:=⟨some 8,_,_,_,_,_⟩) (v:=undef) rfl (by kernel_rfl) (by kernel_rfl) (by kernel_rfl) (fun _ _ _ h=>h) (Or.inr ⟨by kernel_rfl,rfl⟩) (by assumption) ?_;try simp only [words.pt]
  refine wpAnyH_take (i:=6) (oi:=⟨some 9,_,_,_,_,_⟩) (v:=undef) rfl (by kernel_rfl) (by kernel_rfl) (by kernel_rfl) (fun _ _ _ h=>h) (Or.inr ⟨by kernel_rfl,rfl⟩) (by assumption) ?_;try simp only [words.pt]
  refine wpAnyH_take (i:=7) (oi:=⟨some 10,_,_,_,_,_⟩) (v:=undef) rfl (by kernel_rfl) (by kernel_rfl) (by kernel_rfl) (fun _ _ _ h=>h) (Or.inr ⟨by kernel_rfl,rfl⟩) (by assumption) ?_;try simp only [words.pt]
  refine wpAnyH_take (i:=8) (oi:=⟨some 11,_,_,_,_,_⟩) (v:=undef) rfl (by kernel_rfl) (by kernel_rfl) (by kernel_rfl) (fun _ _ _ h=>h) (Or.inr ⟨by kernel_rfl,rfl⟩) (by assumption) ?_;try simp only [words.pt]
  refine words.tk 9 12 (v:=?_) ?_ ?_
  rotate_left 1
  ·intro _ h;(try dsimp only at h);go_simp;(try with_reducible rfl)
  try simp only [words.pt]
  refine words.tk 10 13 (v:=?_) ?_ ?_
  rotate_left 1
  ·intro _ h;(try dsimp only at h);go_simp;(try with_reducible rfl)
  try simp only [words.pt]
  refine wpAnyH_take (i:=11) (oi:=⟨some 14,_,_,_,_,_⟩) (v:=undef) rfl (by kernel_rfl) (by kernel_rfl) (by kernel_rfl) (fun _ _ _ h=>h) (Or.inr ⟨by kernel_rfl,rfl⟩) (by assumption) ?_;try simp only [words.pt]
  refine wpAnyH_take (i:=12) (oi:=⟨some 15,_,_,_,_,_⟩) (v:=undef) rfl (by kernel_rfl) (by kernel_rfl) (by kernel_rfl) (fun _ _ _ h=>h) (Or.inr ⟨by kernel_rfl,rfl⟩) (by assumption) ?_;try simp only [words.pt]
  refine wpAnyH_take (i:=13) (oi:=⟨some 16,_,_,_,_,_⟩) (v:=undef) rfl (by kernel_rfl) (by kernel_rfl) (by kernel_rfl) (fun _ _ _ h=>h) (Or.inr ⟨by kernel_rfl,rfl⟩) (by assumption) ?_;try simp only [words.pt]
  refine wpAnyH_take (i:=14) (oi:=⟨some 17,_,_,_,_,_⟩) (v:=undef) rfl (by kernel_rfl) (by kernel_rfl) (by kernel_rfl) (fun _ _ _ h=>h) (Or.inr ⟨by kernel_rfl,rfl⟩) (by assumption) ?_;try simp only [words.pt]
  refine words.tk 15 18 (v:=?_) ?_ ?_
  rotate_left 1
  ·intro _ h;(try dsimp only at h);go_simp;(try with_reducible rfl)
  try simp only [words.pt]
  refine words.tk 16 2 (v:=?_) ?_ ?_
  rotate_left 1
  ·intro _ h;(try dsimp only at h);go_simp;(try with_reducible rfl)
  try simp only [words.pt]
  refine wpAnyH_done (by kernel_rfl) ?_ _;clear hHeld hr HS HBv HWd HTd;go_wp2_with fail
  go_ret
  exact⟨by rw [HRF.out];rfl,HB1.out.trans (hv1.mono HB1.out.size)⟩
 have HWe:=hid hw;have HCt0:Hid (∀w':World,Calls prog 97 #[.string p,.string ⟨#[10]⟩] w' fun e w''=>e= .returned (.bool (decide (10∈p.data.toList)))∧w''=w'):=hid fun w'=>contains10 p w';by_cases h10:10∈p.data.toList
 ·have hd:decide (10∈p.data.toList)=true:=decide_eq_true h10
  have HRF:Hid (rightM (opM k p o n i g)=false):=hid (by rw [HRM.out,hd];simp);have HCt:=HCt0;rw [hd] at HCt;clear hw h10 hd HCt0;refine wp_region_held_drew (S:=fun w'=>(w'.cell? ⟨w.heap.size,0,none⟩=some (.int .i64 k)∧w'.cell? ⟨w.heap.size,1,none⟩=some (.string p)∧w'.cell? ⟨w.heap.size,2,none⟩=some (.int .i64 o)∧w'.cell? ⟨w.heap.size,3,none⟩=some (.int .i64 n)∧w'.cell? ⟨w.heap.size,4,none⟩=some (.int .i64 i)∧w'.cell? ⟨w.heap.size,5,none⟩=some (.string g))) (by kernel_rfl) (HS.out _ HBv.out) (fun hHeld=>?_);refine words.tk 0 3 (v:=?_) ?_ ?_
  rotate_left 1
  ·intro _ h;(try dsimp only at h);go_simp;(try with_reducible rfl)
  try simp only [words.pt]
  refine words.tk 1 4 (v:=?_) ?_ ?_
  rotate_left 1
  ·intro _ h;(try dsimp only at h);go_simp;(try with_reducible rfl)
  try simp only [words.pt]
  refine wpAnyH_ready (rs:=[2]) (by kernel_rfl) (by simp) (.cons rfl (fun K hK=>?_) .nil);go_simp
  go_at_call 96
  refine (HWd.out _ HBv.out).mono ?_;rintro en v1 ⟨⟨r,rfl,hr⟩,hv1⟩;have f0:r.toList.isEmpty=false:=by rw [to_list,hr];simpa using HWe.out
  clear hHeld;refine hK.out _ _ (HS.out _ hv1) (fun hHeld=>?_);clear hK;refine words.tk 3 6 (v:=?_) ?_ ?_
  rotate_left 1
  ·intro _ h;(try dsimp only at h);go_simp;(try with_reducible rfl)
  try simp only [words.pt]
  refine words.tk 4 7 (v:=?_) ?_ ?_
  rotate_left 1
  ·intro _ h;(try dsimp only at h);go_simp;(try with_reducible rfl)
  try simp only [words.pt]
  refine words.tk 5 8 (v:=?_) ?_ ?_
  rotate_left 1
  ·intro _ h;(try dsimp only at h);go_simp;(try with_reducible rfl)
  try simp only [words.pt]
  refine words.tk 6 9 (v:=?_) ?_ ?_
  rotate_left 1
  ·intro _ h;(try dsimp only at h);go_simp;(try with_reducible rfl)
  try simp only [words.pt]
  refine wpAnyH_ready (rs:=[7]) (by kernel_rfl) (by simp) (.cons rfl (fun K hK=>?_) .nil);go_simp
  go_at_call 97
  refine (HCt.out _).mono ?_;rintro en v2 ⟨rfl,rfl⟩;clear hHeld;refine hK.out _ _ (HS.out _ hv1) (fun hHeld=>?_);clear hK;refine words.tk 8 11 (v:=?_) ?_ ?_
  rotate_left 1
  ·intro _ h;(try dsimp only at h);go_simp;(try with_reducible rfl)
  try simp only [words.pt]
  refine words.tk 9 12 (v:=?_) ?_ ?_
  rotate_left 1
  ·intro _ h;(try dsimp only at h);go_simp;(try with_reducible rfl)
  try simp only [words.pt]
  refine words.tk 10 13 (v:=?_) ?_ ?_
  rotate_left 1
  ·intro _ h;(try dsimp only at h);go_simp;(try with_reducible rfl)
  try simp only [words.pt]
  refine wpAnyH_take (i:=11) (oi:=⟨some 14,_,_,_,_,_⟩) (v:=undef) rfl (by kernel_rfl) (by kernel_rfl) (by kernel_rfl) (fun _ _ _ h=>h) (Or.inr ⟨by kernel_rfl,rfl⟩) (by assumption) ?_;try simp only [words.pt]
  refine wpAnyH_take (i:=12) (oi:=⟨some 15,_,_,_,_,_⟩) (v:=undef) rfl (by kernel_rfl) (by kernel_rfl) (by kernel_rfl) (fun _ _ _ h=>h) (Or.inr ⟨by kernel_rfl,rfl⟩) (by assumption) ?_;try simp only [words.pt]
  refine wpAnyH_take (i:=13) (oi:=⟨some 16,_,_,_,_,_⟩) (v:=undef) rfl (by kernel_rfl) (by kernel_rfl) (by kernel_rfl) (fun _ _ _ h=>h) (Or.inr ⟨by kernel_rfl,rfl⟩) (by assumption) ?_;try simp only [words.pt]
  refine wpAnyH_take (i:=14) (oi:=⟨some 17,_,_,_,_,_⟩) (v:=undef) rfl (by kernel_rfl) (by kernel_rfl) (by kernel_rfl) (fun _ _ _ h=>h) (Or.inr ⟨by kernel_rfl,rfl⟩) (by assumption) ?_;try simp only [words.pt]
  refine words.tk 15 18 (v:=?_) ?_ ?_
  rotate_left 1
  ·intro _ h;(try dsimp only at h);go_simp;(try with_reducible rfl)
  try simp only [words.pt]
  refine words.tk 16 2 (v:=?_) ?_ ?_
  rotate_left 1
  ·intro _ h;(try dsimp only at h);go_simp;(try with_reducible rfl)
  try simp only [words.pt]
  refine wpAnyH_done (by kernel_rfl) ?_ _;clear hHeld hr HS HBv HWd HTd;go_wp2_with fail
  go_ret
  exact⟨by rw [HRF.out];rfl,HB1.out.trans (hv1.mono HB1.out.size)⟩
 have hd:decide (10∈p.data.toList)=false:=decide_eq_false h10;have HRT:Hid (rightM (opM k p o n i g)=decide (opM k p o n i g=toldM (opM k p o n i g))):=hid (by rw [HRM.out,hd];simp [hw]);have heq:=Jrw;have HCt:=HCt0;rw [hd] at HCt;clear hw h10 hd HCt0;refine wp_region_held_drew (S:=fun w'=>(w'.cell? ⟨w.heap.size,0,none⟩=some (.int .i64 k)∧w'.cell? ⟨w.heap.size,1,none⟩=some (.string p)∧w'.cell? ⟨w.heap.size,2,none⟩=some (.int .i64 o)∧w'.cell? ⟨w.heap.size,3,none⟩=some (.int .i64 n)∧w'.cell? ⟨w.heap.size,4,none⟩=some (.int .i64 i)∧w'.cell? ⟨w.heap.size,5,none⟩=some (.string g))) (by kernel_rfl) (HS.out _ HBv.out) (fun hHeld=>?_);refine words.tk 0 3 (v:=?_) ?_ ?_
 rotate_left 1
 ·intro _ h;(try dsimp only at h);go_simp;(try with_reducible rfl)
 try simp only [words.pt]
 refine words.tk 1 4 (v:=?_) ?_ ?_
 rotate_left 1
 ·intro _ h;(try dsimp only at h);go_simp;(try with_reducible rfl)
 try simp only [words.pt]
 refine wpAnyH_ready (rs:=[2]) (by kernel_rfl) (by simp) (.cons rfl (fun K hK=>?_) .nil);go_simp
 go_at_call 96
 refine (HWd.out _ HBv.out).mono ?_;rintro en v1 ⟨⟨r,rfl,hr⟩,hv1⟩;have f0:r.toList.isEmpty=false:=by rw [to_list,hr];simpa using HWe.out
 clear hHeld;refine hK.out _ _ (HS.out _ hv1) (fun hHeld=>?_);clear hK;refine words.tk 3 6 (v:=?_) ?_ ?_
 rotate_left 1
 ·intro _ h;(try dsimp only at h);go_simp;(try with_reducible rfl)
 try simp only [words.pt]
 refine words.tk 4 7 (v:=?_) ?_ ?_
 rotate_left 1
 ·intro _ h;(try dsimp only at h);go_simp;(try with_reducible rfl)
 try simp only [words.pt]
 refine words.tk 5 8 (v:=?_) ?_ ?_
 rotate_left 1
 ·intro _ h;(try dsimp only at h);go_simp;(try with_reducible rfl)
 try simp only [words.pt]
 refine words.tk 6 9 (v:=?_) ?_ ?_
 rotate_left 1
 ·intro _ h;(try dsimp only at h);go_simp;(try with_reducible rfl)
 try simp only [words.pt]
 refine wpAnyH_ready (rs:=[7]) (by kernel_rfl) (by simp) (.cons rfl (fun K hK=>?_) .nil);go_simp
 go_at_call 97
 refine (HCt.out _).mono ?_;rintro en v2 ⟨rfl,rfl⟩;clear hHeld;refine hK.out _ _ (HS.out _ hv1) (fun hHeld=>?_);clear hK;refine words.tk 8 11 (v:=?_) ?_ ?_
 rotate_left 1
 ·intro _ h;(try dsimp only at h);go_simp;(try with_reducible rfl)
 try simp only [words.pt]
 refine words.tk 9 12 (v:=?_) ?_ ?_
 rotate_left 1
 ·intro _ h;(try dsimp only at h);go_simp;(try with_reducible rfl)
 try simp only [words.pt]
 refine words.tk 10 13 (v:=?_) ?_ ?_
 rotate_left 1
 ·intro _ h;(try dsimp only at h);go_simp;(try with_reducible rfl)
 try simp only [words.pt]
 refine words.tk 11 14 (v:=?_) ?_ ?_
 rotate_left 1
 ·intro _ h;(try dsimp only at h);go_simp;(try with_reducible rfl)
 try simp only [words.pt]
 refine words.tk 12 15 (v:=?_) ?_ ?_
 rotate_left 1
 ·intro _ h;(try dsimp only at h);go_simp;(try with_reducible rfl)
 try simp only [words.pt]
 refine wpAnyH_ready (rs:=[13]) (by kernel_rfl) (by simp) (.cons rfl (fun K hK=>?_) .nil);go_simp
 go_at_call 98
 refine (HTd.out _ hv1).mono ?_;rintro en v3 ⟨⟨p',o',n',i',g',rfl,hm⟩,hv3⟩;clear hHeld;refine hK.out _ _ (HS.out _ hv3) (fun hHeld=>?_);clear hK;refine words.tk 14 17 (v:=?_) ?_ ?_
 rotate_left 1
 ·intro _ h;(try dsimp only at h);go_simp;(try with_reducible rfl)
 try simp only [words.pt]
 refine words.tk 15 18 (v:=?_) ?_ ?_
 rotate_left 1
 ·intro _ h;(try dsimp only at h);go_simp;(try with_reducible rfl)
 try simp only [words.pt]
 refine words.tk 16 2 (v:=?_) ?_ ?_
 rotate_left 1
 ·intro _ h;(try dsimp only at h);go_simp;(try with_reducible rfl)
 try simp only [words.pt]
 refine wpAnyH_done (by kernel_rfl) ?_ _;clear hHeld hr HS HBv HWd HTd;have HM:=hid hm;clear hm;go_wp2_with fail
 go_ret
 exact⟨by rw [HRT.out,←HM.out];rfl,HB1.out.trans (hv3.mono HB1.out.size)⟩

theorem Jdb (m:Int) (s:ByteArray) (w:World) (hs:s.size≤1000000) (hE:Env m w):
  Calls prog 17 #[.string s,.string ⟨#[32]⟩] w fun e w'=>(∃(a b:ByteArray) (f:Bool),e= .returned (.tuple #[.string a,.string b,.bool f])∧cutL s.data.toList=(a.data.toList,b.data.toList,f))∧Below w.heap.size w w':=by
 refine (Tryz.strings_Cut s ⟨#[32]⟩ m w (by omega) hE.max).mono ?_;rintro e w' ⟨rfl,n,rfl⟩;exact⟨⟨_,_,_,rfl,by rw [Jck,Jck];rfl⟩,⟨rfl,rfl,rfl,Nat.le_refl _,fun _ _=>rfl⟩⟩
theorem Jd1 {s a b:ByteArray} {f:Bool} (h:cutL s.data.toList=(a.data.toList,b.data.toList,f)):a.size≤s.size∧b.size≤s.size:=by
 rw [←size_list,←size_list,←size_list];cases f with
 |true=>
  have h1:=Jme h;rw [h1];simp;omega
 |false=>
  obtain⟨h1,h2⟩:=Joh h;rw [h1,h2];simp
def NumsOut (a b:List UInt8) (e:Ending):Prop:=(∃x:Int×Int,numsM a b=some x∧e= .returned (.tuple #[.int .i64 x.1,.int .i64 x.2,.bool true]))∨(numsM a b=none∧∃x y:Int,e= .returned (.tuple #[.int .i64 x,.int .i64 y,.bool false]))
theorem Jbj (m:Int) (v u:ByteArray) (w:World) (hv:v.size≤1000000) (hu:u.size≤1000000) (hE:Env m w):
  Calls prog 95 #[.string v,.string u] w fun e w'=>NumsOut v.data.toList u.data.toList e∧Below w.heap.size w w':=by
 have HC:=hid (Jai m v w (by omega) hE);have HE:=hid hE;clear hE;go_enter func95,ntmps95
 go_wp2_with fail
 refine HC.out.mono ?_;rintro e w2 ⟨ho,hb2⟩;have HC2:=hid (Jai m u w2 (by omega) (HE.out.later hb2));have HB2:=hid hb2;clear hb2 HC;rcases ho with⟨h1,rfl⟩ |⟨x,h1,rfl⟩
 ·have HO:Hid (∀y:Int,NumsOut v.data.toList u.data.toList (.returned (.tuple #[.int .i64 0,.int .i64 y,.bool false]))):=hid fun y=> .inr ⟨by unfold numsM;rw [h1],_,_,rfl⟩
  clear h1;go_wp2_with fail
  refine HC2.out.mono ?_;rintro e w3 ⟨ho,hb3⟩;have HF:=hid (HB2.out.trans (hb3.mono HB2.out.size));clear hb3 HC2;rcases ho with⟨_,rfl⟩ |⟨y,_,rfl⟩
  ·go_wp2_with fail
   go_ret3
   exact⟨HO.out 0,HF.out⟩
  ·go_wp2_with fail
   go_ret3
   exact⟨HO.out y,HF.out⟩
 ·go_wp2_with fail
  refine HC2.out.mono ?_;rintro e w3 ⟨ho,hb3⟩;have HF:=hid (HB2.out.trans (hb3.mono HB2.out.size));clear hb3 HC2;rcases ho with⟨h2,rfl⟩ |⟨y,h2,rfl⟩
  ·have HO:Hid (NumsOut v.data.toList u.data.toList (.returned (.tuple #[.int .i64 x,.int .i64 0,.bool false]))):=hid (.inr ⟨by unfold numsM;rw [h1,h2],_,_,rfl⟩)
   clear h1 h2;go_wp2_with fail
   go_ret3
   exact⟨HO.out,HF.out⟩
  ·have HO:Hid (NumsOut v.data.toList u.data.toList (.returned (.tuple #[.int .i64 x,.int .i64 y,.bool true]))):=hid (.inl ⟨(x,y),by unfold numsM;rw [h1,h2],rfl⟩)
   clear h1 h2;go_wp2_with fail
   go_ret3
   exact⟨HO.out,HF.out⟩
def atM (s:List UInt8):Option (Int×Int×List UInt8):=if (cutL (cutL s).2.1).2.2 then (numsM (cutL s).1 (cutL (cutL s).2.1).1).map fun x=>(x.1,x.2,(cutL (cutL s).2.1).2.1) else none
def AtO (s:ByteArray) (e:Ending):Prop:=∃(x y:Int) (p:ByteArray),p.size≤s.size∧((atM s.data.toList=some (x,y,p.data.toList)∧e= .returned (.tuple #[.int .i64 x,.int .i64 y,.string p,.bool true]))∨(atM s.data.toList=none∧e= .returned (.tuple #[.int .i64 x,.int .i64 y,.string p,.bool false])))
theorem Jld (m:Int) (s:ByteArray) (w:World) (hs:s.size≤1000000) (hE:Env m w):
  Calls prog 94 #[.string s] w fun e w'=>AtO s e∧Below w.heap.size w w':=by
 have HC:=hid (Jdb m s w hs hE);have HE:=hid hE;clear hE;go_enter func94,ntmps94
 go_wp2_with fail
 refine HC.out.mono ?_;rintro e w2 ⟨⟨a,b,f1,rfl,hc1⟩,hb2⟩;have hz1:=Jd1 hc1;have HC2:=hid (Jdb m b w2 (by omega) (HE.out.later hb2));have HB2:=hid hb2;have HC1:=hid hc1;have HZ1:=hid hz1;clear hb2 HC hc1 hz1;go_wp2_with fail
 refine HC2.out.mono ?_;rintro e w3 ⟨⟨c,d,f2,rfl,hc2⟩,hb3⟩;have hz2:=Jd1 hc2;have HB3:=hid (HB2.out.trans (hb3.mono HB2.out.size));have HC3:=hid (Jbj m a c w3 (by have:=HZ1.out;omega) (by have:=HZ1.out;omega) (HE.out.later HB3.out));have HAt:Hid (atM s.data.toList=if f2 then (numsM a.data.toList c.data.toList).map fun x=>(x.1,x.2,d.data.toList) else none):=hid (by
   unfold atM;rw [HC1.out];simp only;rw [hc2])
 have HZ2:Hid (d.size≤s.size):=hid (by have:=HZ1.out;omega);clear hb3 HC2 hc2 hz2;go_wp2_with fail
 refine HC3.out.mono ?_;rintro e w4 ⟨ho,hb4⟩;have HF:=hid (HB3.out.trans (hb4.mono HB3.out.size));clear hb4 HC3;rcases ho with⟨⟨x,y⟩,h1,rfl⟩ |⟨h1,x,y,rfl⟩
 ·cases f2 with
  |true=>
   have HO:Hid (AtO s (.returned (.tuple #[.int .i64 x,.int .i64 y,.string d,.bool true]))):=hid ⟨x,y,d,HZ2.out,.inl ⟨by rw [HAt.out,h1];rfl,rfl⟩⟩;clear h1;go_wp2_with fail
   exact bodyPost_ret (v:= .tuple #[.int .i64 x,.int .i64 y,.string d,.bool true]) (by simp [results,results94,go_sem]) rfl ⟨HO.out,HF.out⟩
  |false=>
   have HO:Hid (AtO s (.returned (.tuple #[.int .i64 x,.int .i64 y,.string d,.bool false]))):=hid ⟨x,y,d,HZ2.out,.inr ⟨by rw [HAt.out];rfl,rfl⟩⟩;clear h1;go_wp2_with fail
   exact bodyPost_ret (v:= .tuple #[.int .i64 x,.int .i64 y,.string d,.bool false]) (by simp [results,results94,go_sem]) rfl ⟨HO.out,HF.out⟩
 ·have HO:Hid (AtO s (.returned (.tuple #[.int .i64 x,.int .i64 y,.string d,.bool false]))):=hid ⟨x,y,d,HZ2.out,.inr ⟨by rw [HAt.out,h1];cases f2<;>rfl,rfl⟩⟩
  clear h1;go_wp2_with fail
  exact bodyPost_ret (v:= .tuple #[.int .i64 x,.int .i64 y,.string d,.bool false]) (by simp [results,results94,go_sem]) rfl ⟨HO.out,HF.out⟩
end Go.Proofs.YtcoimjbhoiipoaaGreatDoor.cal
