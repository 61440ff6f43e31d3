import Derived.Test.YtkjpgheealfedaaGreatDoorJU2
import Derived.Test.YtkjpgheealfedaaGreatDoorJM3
set_option maxHeartbeats 12800000
set_option maxRecDepth 100000
open Go.Lib (hid)
open Go.Proofs.Tryz
namespace Go.Proofs.YtkjpgheealfedaaGreatDoor.uni
open Go.RowKit words ext name tre stk Go.Proofs.YtkjpgheealfedaaGreatDoor.seen wlk

theorem Jlu {R:List Nd} {f:Bool} {ns ps:List ByteArray} {h:Nat} {o:AtO} (H:Leads R f ns ps h o):∀j,o= .err j→j≠0:=by
 induction H with
 |done=>intro j h;cases h
 |up _ ih=>exact ih
 |none=>intro j h;injection h with h;omega
 |dir _ _ _ _ _ _ ih=>exact ih
 |loop=>intro j h;injection h with h;omega
 |hop _ _ _ _ _ _ _ _ ih=>exact ih
 |not=>intro j h;injection h with h;omega
 |leaf=>intro j h;cases h
theorem Jov {R:List Nd} {f:Bool} {s:ByteArray} {j:Int} (h:Goes R f s (.err j)):j≠0:=by
 rcases h with⟨_,h⟩ |⟨_,_,h⟩
 ·injection h with h;omega
 ·exact Jlu h j rfl
def RlOwn (O:AtO) (w:World) (e:Ending) (w':World):Prop:=
 ((lsE O≠0∧e= .returned (.tuple #[.slice none 0 0,.slice none 0 0,.int .i64 (lsE O)]))∨
  (∃(ns:List ByteArray) (E:List Nd) (N:List ByteArray) (E2:List (ByteArray×Int)) (A1:Option Addr) (c1:Nat) (A2:Option Addr) (c2:Nat),O= .ok ns E∧lsE O=0∧heap.Ris N∧(∀s,s∈N↔s∈mrg.namesOf E)∧mrg.LstK E N E2∧E2.length≤N.length∧
     e= .returned (.tuple #[.slice A1 ns.length c1,.slice A2 E2.length c2,.int .i64 0])∧heap.Row w' w'.heap.size A1 ns∧∃B0,w'.ownsRow B0 56 2 (.slice A2 E2.length c2) E2.length (E2.flatMap mrg.enC)))∧Below w.heap.size w w'
theorem Jnl {R:List Nd} (hg:∀t∈R,allB t=true) (hR:R.length≤64) (A:Option Addr) (c:Nat) (rs:Nat→Raw) (p:ByteArray) (w:World) (hT:Trees w w.heap.size A R rs) (hp:p.size≤1000000) {O:AtO} (hO:Goes R true p O)
  (hcn:lsE O=0→∀ns E,O= .ok ns E→∀d∈E,d.N.length≤4096):
  Calls prog 9 #[.slice A R.length c,.string p] w (RlOwn O w):=by
 have HWk:Hid (Calls prog 35 #[.slice A R.length c,.string p,.bool true] w fun e w''=>(∃(B1:Option Addr) (m1 e1:Nat) (B2:Option Addr) (m2 e2:Nat) (kz:Int),e= .returned (.agg #[.slice B1 m1 e1,.slice B2 m2 e2,.int .i64 kz])∧AtIn O (.agg #[.slice B1 m1 e1,.slice B2 m2 e2,.int .i64 kz]) w'')∧Below w.heap.size w w''):=hid (
   (Ji7 hg hR A c rs p true O w hT hp hO).mono fun e w'' ⟨⟨v,he,hv⟩,hw⟩=>by
    obtain⟨B1,m1,e1,B2,m2,e2,kz,rfl⟩:=hv.shape;exact⟨⟨B1,m1,e1,B2,m2,e2,kz,he,hv⟩,hw⟩)
 have HJ:Hid (∀j,O= .err j→j≠0):=hid fun j h=>Jov (by rw [h] at hO;exact hO);have HAl:Hid (∀ns E,O= .ok ns E→Along (D0 R) ns E):=hid fun ns E h=>(Jm8 hg (by rw [h] at hO;exact hO)).1;have HGg:=hid (And.intro hg hR);have HCn:=hid hcn;clear hg hR hT hp hO hcn;go_enter func9,ntmps9
 go_wp2_with fail
 refine HWk.out.mono ?_;rintro ex w2 ⟨⟨B1,m1,e1,B2,m2,e2,kz,rfl,hat⟩,hb2⟩;obtain⟨W3,hW3⟩:=words.nm (w2.alloc (.cells #[.slice B1 m1 e1,.slice B2 m2 e2,.int .i64 kz] 105));have hx3:W3.heap[w2.heap.size]?=some (.cells #[.slice B1 m1 e1,.slice B2 m2 e2,.int .i64 kz] 105 (0,0)):=by rw [hW3];exact heap_alloc_new w2 _
 have hb23:Below w2.heap.size w2 W3:=words.b1 hW3;have HB3:=hid (hb2.trans (hb23.mono hb2.size));have HAt:=hid (hat.later hb23);have HX3:=hid hx3;have a1:=Jaa hx3 1;have a2:=Jaa hx3 2;have HW3:=hid hW3.symm;have HSS:Hid (∀w':World,Below W3.heap.size W3 w'→(w'.cell? ⟨w2.heap.size,0,none⟩=some (.slice B1 m1 e1)∧w'.cell? ⟨w2.heap.size,1,none⟩=some (.slice B2 m2 e2)∧w'.cell? ⟨w2.heap.size,2,none⟩=some (.int .i64 kz)∧Below W3.heap.size W3 w')):=hid fun w' hb=>by
  have e2:=(hb.block _ (lt_of_some HX3.out)).trans HX3.out;exact⟨Jaa e2 0,Jaa e2 1,Jaa e2 2,hb⟩
 have HBv:Hid (Below W3.heap.size W3 W3.drew):=hid (Below.refl _ _).drew;clear hW3 hx3 hb23 hb2 hat HWk;go_upto_region 2 with fail
 rw [HW3.out];clear HW3;rcases hOe:O with j |⟨ns,E⟩
 ·subst hOe
  have hj:j≠0:=HJ.out j rfl;obtain rfl:kz=j:=by
   have h1:(.agg #[.slice B1 m1 e1,.slice B2 m2 e2,.int .i64 kz]:Value)= .agg #[.slice none 0 0,.slice none 0 0,.int .i64 j]:=HAt.out;injection h1 with h1;have h2:=congrArg (fun x:Array Value=>x[2]?) h1;simpa using h2
  have gj:(kz !=0)=true:=by rw [bne_iff_ne];exact hj
  have HJz:=hid hj;clear hj;go_upto_region 3 with fail
  refine wp_region_held_drew (S:=fun w'=>(w'.cell? ⟨w2.heap.size,0,none⟩=some (.slice B1 m1 e1)∧w'.cell? ⟨w2.heap.size,1,none⟩=some (.slice B2 m2 e2)∧w'.cell? ⟨w2.heap.size,2,none⟩=some (.int .i64 kz)∧Below W3.heap.size W3 w')) (by kernel_rfl) (HSS.out _ HBv.out) (fun hHeld=>?_);refine words.tk 0 14 (v:=?_) ?_ ?_
  rotate_left 1
  ·intro _ h;(try dsimp only at h);go_simp;(try with_reducible rfl)
  try simp only [words.pt]
  refine words.tk 1 15 (v:=?_) ?_ ?_
  rotate_left 1
  ·intro _ h;(try dsimp only at h);go_simp;(try with_reducible rfl)
  try simp only [words.pt]
  refine words.tk 2 4 (v:=?_) ?_ ?_
  rotate_left 1
  ·intro _ h;(try dsimp only at h);go_simp;(try with_reducible rfl)
  try simp only [words.pt]
  refine words.tk 3 5 (v:=?_) ?_ ?_
  rotate_left 1
  ·intro _ h;(try dsimp only at h);go_simp;(try with_reducible rfl)
  try simp only [words.pt]
  refine words.tk 4 6 (v:=?_) ?_ ?_
  rotate_left 1
  ·intro _ h;(try dsimp only at h);go_simp;(try with_reducible rfl)
  try simp only [words.pt]
  refine wpAnyH_done (by kernel_rfl) ?_ _;have HF:=hid (HB3.out.trans (HBv.out.mono HB3.out.size));clear hHeld HSS a1 a2;go_wp2_with fail
  exact bodyPost_ret (v:= .tuple #[.slice none 0 0,.slice none 0 0,.int .i64 kz]) (by simp [results,results9,go_sem]) rfl ⟨.inl ⟨HJz.out,rfl⟩,HF.out⟩
 subst hOe;have hAt:=HAt.out;obtain⟨A1,c1,A2,c2,qs,hv,hrow,_,_,htr,_⟩:=hAt;injection hv with hv;have h0:=congrArg (fun x:Array Value=>x[0]?) hv;have h1:=congrArg (fun x:Array Value=>x[1]?) hv;have h2:=congrArg (fun x:Array Value=>x[2]?) hv;simp at h0 h1 h2;obtain⟨rfl,rfl,rfl⟩:=h0;obtain⟨rfl,rfl,rfl⟩:=h1;subst h2;have HRow:=hid hrow;have HTr:=hid htr;clear hv hrow htr HAt HJ;rcases E with _ |⟨d,E⟩
 ·have HEr:Hid (lsE (.ok ns [])=0):=hid rfl
  have hal:=HAl.out ns [] rfl;have hgd:=hal.good (wlk.Good.root HGg.out.1);have hcd:=HCn.out HEr.out ns [] rfl;have hel:([]:List Nd).length≤64:=by
   have h1:=hal.len;have h2:(D0 R).length≤R.length:=by unfold D0;rw [List.length_take];exact Nat.min_le_right _ _
   have h3:=HGg.out.2;omega
  have HLi:Hid (∀w':World,Below W3.heap.size W3 w'→Calls prog 36 #[.slice B2 ([]:List Nd).length e2] w' (mrg.RefOwn [] w')):=hid fun w' hb=>mrg.reflist_own B2 e2 [] qs w' (HTr.out.later hb) hel hgd.asc hcd;clear hal hgd hcd hel;go_upto_region 6 with fail
  refine wp_region_held_drew (S:=fun w'=>(w'.cell? ⟨w2.heap.size,0,none⟩=some (.slice B1 ns.length e1)∧w'.cell? ⟨w2.heap.size,1,none⟩=some (.slice B2 ([]:List Nd).length e2)∧w'.cell? ⟨w2.heap.size,2,none⟩=some (.int .i64 0)∧Below W3.heap.size W3 w')) (by kernel_rfl) (HSS.out _ HBv.out) (fun hHeld=>?_);refine words.tk 0 28 (v:=?_) ?_ ?_
  rotate_left 1
  ·intro _ h;(try dsimp only at h);go_simp;(try with_reducible rfl)
  try simp only [words.pt]
  refine words.tk 1 29 (v:=?_) ?_ ?_
  rotate_left 1
  ·intro _ h;(try dsimp only at h);go_simp;(try with_reducible rfl)
  try simp only [words.pt]
  refine words.tk 2 30 (v:=?_) ?_ ?_
  rotate_left 1
  ·intro _ h;(try dsimp only at h);go_simp;(try with_reducible rfl)
  try simp only [words.pt]
  refine words.tk 3 31 (v:=?_) ?_ ?_
  rotate_left 1
  ·intro _ h;(try dsimp only at h);go_simp;(try with_reducible rfl)
  try simp only [words.pt]
  refine wpAnyH_ready (rs:=[4]) (by kernel_rfl) (by simp) (.cons rfl (fun K hK=>?_) .nil);go_simp
  go_at_call 36
  refine (HLi.out _ HBv.out).mono ?_;rintro en v1 ⟨⟨N,E2,A2,c2,hris,hmem,hlk,hle,rfl,B0,hlies⟩,hv1⟩;have hq1:=HBv.out.trans (hv1.mono HBv.out.size);clear hHeld;refine hK.out _ _ (HSS.out _ hq1) (fun hHeld=>?_);clear hK;refine words.tk 5 4 (v:=?_) ?_ ?_
  rotate_left 1
  ·intro _ h;(try dsimp only at h);go_simp;(try with_reducible rfl)
  try simp only [words.pt]
  refine words.tk 6 5 (v:=?_) ?_ ?_
  rotate_left 1
  ·intro _ h;(try dsimp only at h);go_simp;(try with_reducible rfl)
  try simp only [words.pt]
  refine words.tk 7 6 (v:=?_) ?_ ?_
  rotate_left 1
  ·intro _ h;(try dsimp only at h);go_simp;(try with_reducible rfl)
  try simp only [words.pt]
  refine wpAnyH_done (by kernel_rfl) ?_ _;have HF:=hid (HB3.out.trans (hq1.mono HB3.out.size));have HX:=hid (And.intro hris (And.intro hmem (And.intro hlk (And.intro hle (And.intro ((HRow.out.keep hq1).more hq1.size) hlies)))));clear hHeld hv1 hq1 hris hmem hlk hlies hle HLi HSS HBv a1 a2;go_wp2_with fail
  obtain⟨a1,a2,a3,a6,a4,a5⟩:=HX.out;exact bodyPost_ret (v:= .tuple #[.slice B1 ns.length e1,.slice A2 E2.length c2,.int .i64 0]) (by simp [results,results9,go_sem]) rfl ⟨.inr ⟨ns,[],N,E2,_,_,_,_,rfl,HEr.out,a1,a2,a3,a6,rfl,a4,B0,a5⟩,HF.out⟩
 obtain⟨⟨bn,on,hA2,hbn,hcn⟩,_⟩:=HTr.out 0 d rfl;subst hA2;have kd:W3.cell? ⟨bn,on,none⟩=some (.int .i64 d.K):=by
  have h1:=hcn 0 _ rfl;rw [Nat.zero_mul,Nat.add_zero] at h1;exact h1
 have l0:(0:Int)<((E.length+1:Nat):Int):=by omega
 have l0':(0:Int)<(E.length:Int)+1:=by omega
 clear hbn hcn;by_cases hd:d.K=2
 ·rw [hd] at kd
  have HEr:Hid (lsE (.ok ns (d::E))=0):=hid (if_pos hd);have hal:=HAl.out ns (d::E) rfl;have hgd:=hal.good (wlk.Good.root HGg.out.1);have hcd:=HCn.out HEr.out ns (d::E) rfl;have hel:((d::E):List Nd).length≤64:=by
   have h1:=hal.len;have h2:(D0 R).length≤R.length:=by unfold D0;rw [List.length_take];exact Nat.min_le_right _ _
   have h3:=HGg.out.2;omega
  have HLi:Hid (∀w':World,Below W3.heap.size W3 w'→Calls prog 36 #[(.slice (some ⟨bn,on,none⟩) ((d::E):List Nd).length e2)] w' (mrg.RefOwn (d::E) w')):=hid fun w' hb=>mrg.reflist_own (some ⟨bn,on,none⟩) e2 (d::E) qs w' (HTr.out.later hb) hel hgd.asc hcd;clear hal hgd hcd hel;clear hd;go_upto_region 6 with fail
  refine wp_region_held_drew (S:=fun w'=>(w'.cell? ⟨w2.heap.size,0,none⟩=some (.slice B1 ns.length e1)∧w'.cell? ⟨w2.heap.size,1,none⟩=some (.slice (some ⟨bn,on,none⟩) (d::E).length e2)∧w'.cell? ⟨w2.heap.size,2,none⟩=some (.int .i64 0)∧Below W3.heap.size W3 w')) (by kernel_rfl) (HSS.out _ HBv.out) (fun hHeld=>?_);refine words.tk 0 28 (v:=?_) ?_ ?_
  rotate_left 1
  ·intro _ h;(try dsimp only at h);go_simp;(try with_reducible rfl)
  try simp only [words.pt]
  refine words.tk 1 29 (v:=?_) ?_ ?_
  rotate_left 1
  ·intro _ h;(try dsimp only at h);go_simp;(try with_reducible rfl)
  try simp only [words.pt]
  refine words.tk 2 30 (v:=?_) ?_ ?_
  rotate_left 1
  ·intro _ h;(try dsimp only at h);go_simp;(try with_reducible rfl)
  try simp only [words.pt]
  refine words.tk 3 31 (v:=?_) ?_ ?_
  rotate_left 1
  ·intro _ h;(try dsimp only at h);go_simp;(try with_reducible rfl)
  try simp only [words.pt]
  refine wpAnyH_ready (rs:=[4]) (by kernel_rfl) (by simp) (.cons rfl (fun K hK=>?_) .nil);go_simp
  go_at_call 36
  refine (HLi.out _ HBv.out).mono ?_;rintro en v1 ⟨⟨N,E2,A2,c2,hris,hmem,hlk,hle,rfl,B0,hlies⟩,hv1⟩;have hq1:=HBv.out.trans (hv1.mono HBv.out.size);clear hHeld;refine hK.out _ _ (HSS.out _ hq1) (fun hHeld=>?_);clear hK;refine words.tk 5 4 (v:=?_) ?_ ?_
  rotate_left 1
  ·intro _ h;(try dsimp only at h);go_simp;(try with_reducible rfl)
  try simp only [words.pt]
  refine words.tk 6 5 (v:=?_) ?_ ?_
  rotate_left 1
  ·intro _ h;(try dsimp only at h);go_simp;(try with_reducible rfl)
  try simp only [words.pt]
  refine words.tk 7 6 (v:=?_) ?_ ?_
  rotate_left 1
  ·intro _ h;(try dsimp only at h);go_simp;(try with_reducible rfl)
  try simp only [words.pt]
  refine wpAnyH_done (by kernel_rfl) ?_ _;have HF:=hid (HB3.out.trans (hq1.mono HB3.out.size));have HX:=hid (And.intro hris (And.intro hmem (And.intro hlk (And.intro hle (And.intro ((HRow.out.keep hq1).more hq1.size) hlies)))));clear hHeld hv1 hq1 hris hmem hlk hlies hle HLi HSS HBv a1 a2;go_wp2_with fail
  obtain⟨a1,a2,a3,a6,a4,a5⟩:=HX.out;exact bodyPost_ret (v:= .tuple #[.slice B1 ns.length e1,.slice A2 E2.length c2,.int .i64 0]) (by simp [results,results9,go_sem]) rfl ⟨.inr ⟨ns,(d::E),N,E2,_,_,_,_,rfl,HEr.out,a1,a2,a3,a6,rfl,a4,B0,a5⟩,HF.out⟩
 ·have gk:(d.K !=2)=true:=by rw [bne_iff_ne];exact hd
  have HE3:Hid (lsE (.ok ns (d::E))=3):=hid (if_neg hd);clear hd;go_wp2_with fail
  exact bodyPost_ret (v:= .tuple #[.slice none 0 0,.slice none 0 0,.int .i64 3]) (by simp [results,results9,go_sem]) rfl ⟨.inl ⟨by rw [HE3.out];decide,by rw [HE3.out]⟩,HB3.out⟩
end Go.Proofs.YtkjpgheealfedaaGreatDoor.uni
