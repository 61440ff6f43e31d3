import Derived.Test.YtkjpgheealfedaaGreatDoorKO
import Derived.Test.YtkjpgheealfedaaGreatDoorKR
set_option maxHeartbeats 25600000
set_option maxRecDepth 100000
open Go.Lib (hid)
open Go.Proofs.Tryz
namespace Go.Proofs.YtkjpgheealfedaaGreatDoor.svr
open Go.RowKit Go.Maps words ext name tre stk Go.Proofs.YtkjpgheealfedaaGreatDoor.seen wlk uni

theorem Js2 (s:ByteArray) (r:Int) (W:World):Sem.run prog (binOp .neq 56 (.agg #[.string s,.int .i64 r]) (.agg #[.string s,.int .i64 r])) W= .ok (.bool false) W:=by
 rw [run_neq_struct];have hs:Tryz.prog.underlying 9=some .string:=underlying9;have hi:Tryz.prog.underlying 3=some (.int .i64):=underlying3;rw [run_equalIn_agg W 9999 56 _ _ (by kernel_rfl) (by kernel_rfl)];simp [hs,hi,go_sem]
theorem Jst (x:Bool) (n:Int) (W:World):(Instr.field 62 (.agg #[.bool x,.int .i64 n]) 0).run prog W= .ok (.bool x) W:=by
 rfl
theorem Js5 (x:Bool) (n:Int) (W:World):(Instr.field 62 (.agg #[.bool x,.int .i64 n]) 1).run prog W= .ok (.int .i64 n) W:=by
 rfl
theorem law_slists (A:Option Addr) (c:Nat) (T:List Nd) (rs:Nat→Raw) (s:ByteArray) (f:Bool) (room:Int) (m:Int) (w:World) (hT:Trees w w.heap.size A T rs) (hm:w.cell? ⟨0,0,none⟩=some (.int .i64 m)) (hs:s.size≤140737488355328) (hrm: -9223372036854775808≤room∧room≤9223372036854775807):
  Calls prog 3 #[.agg #[.slice A T.length c,.string s,.bool f],.int .i64 room] w fun e w'=>e= .returned (.bool true)∧Below w.heap.size w w':=by
 obtain⟨W1,hW1⟩:=words.nm (w.alloc (.cells #[.slice A T.length c,.string s,.bool f] 24));have hb1:=words.b1 hW1;have HC1:=hid (show W1.heap[w.heap.size]?=some (.cells #[.slice A T.length c,.string s,.bool f] 24 (0,0)) by rw [hW1];exact heap_alloc_new w _);have HT:=hid (hT.later hb1);have HM:=hid (Jae hm hb1);have HB1:=hid hb1;have HSp:=hid (Jje m W1 HM.out);have HW1:=hid hW1;clear hT hm hW1 hb1;go_enter func3,ntmps3
 go_upto_region 1 with fail
 rw [←HW1.out];clear HW1;go_wp2_with fail
 refine HSp.out.mono ?_;rintro e w2 ⟨rfl,hb2⟩;have HB2:=hid hb2;have e1:=(hb2.block _ (lt_of_some HC1.out)).trans HC1.out;have x0:=Jaa e1 0;have HMa:=hid (Jr5 A c T rs w2 (HT.out.later hb2));clear hb2 HSp e1;go_wp2_with fail
 refine HMa.out.mono ?_;rintro e w3 ⟨rfl,hb3⟩;have HB3:=hid (HB2.out.trans (hb3.mono HB2.out.size));have e1:=(HB3.out.block _ (lt_of_some HC1.out)).trans HC1.out;clear hb3 HMa x0;have x0:=Jaa e1 0;have x1:=Jaa e1 1;clear e1;rcases hmay:mayB T with _ |_
 ·rw [Jh4 hmay]
  clear hmay;go_wp2_with fail
  go_ret
  exact⟨rfl,HB1.out.trans (HB3.out.mono HB1.out.size)⟩
 rw [Jkz hmay];have HMay:=hid hmay;have hT8:=Jlp hmay;clear hmay;by_cases hn:200<s.size
 ·have g:(200:Int)<(s.size:Int):=by omega
  go_wp2_with fail
  go_ret
  exact⟨rfl,HB1.out.trans (HB3.out.mono HB1.out.size)⟩
 have g:¬(200:Int)<(s.size:Int):=by omega
 have HSt:=hid (Jm6 A c T rs m w3 (HT.out.later HB3.out) (Jae HM.out HB3.out));go_wp2_with fail
 refine HSt.out.mono ?_;rintro e w4 ⟨hst,hb4⟩;rcases hst with⟨_,A',c',L,rfl,hok⟩ |⟨hno,_⟩
 rotate_left 1
 ·rw [HMay.out] at hno;cases hno
 obtain⟨g5,hg5⟩:=words.nm (w4.heap.size);obtain⟨W5,hW5⟩:=words.nm (w4.alloc (.cells #[.slice A' T.length c',.int .i64 (T.length:Int)] 29));have hb5:Below w4.heap.size w4 W5:=words.b1 hW5;have HK:=hid (show W5.heap[g5]?=some (.cells #[.slice A' T.length c',.int .i64 (T.length:Int)] 29 (0,0)) by rw [hW5,hg5];exact heap_alloc_new w4 _);have hb15:Below W1.heap.size W1 W5:=HB3.out.trans ((hb4.trans (hb5.mono hb4.size)).mono HB3.out.size);obtain⟨R,hR⟩:=words.nm (T.reverse);have hstM:=StkOk.stkM (hok.later hb5);have hlen:=hok.len;have hfine:=(Job HT.out HMay.out).rev;have hfew:=Jqo HT.out HMay.out;rw [←hR] at hstM hfine hfew;have hRl:R.length=T.length:=by rw [hR,List.length_reverse]
 have hdeep:∀d∈R,depth d<100:=fun d hd=>by have:=hfine.deep d hd;omega
 obtain⟨O,hO⟩:=Goes.some (f:=true) hfine.all s;have HWk:Hid (Calls prog 7 #[.agg #[.slice A' T.length c',.int .i64 (T.length:Int)],.string s,.bool true] W5 (WalkedTo R O W5)):=hid (by
   have h1:=Jkw hfine.all hfine.dirs hdeep (by omega) A' c' (T.length:Int) L m s true O hO W5 hstM (Jae HM.out hb15) (by omega);rw [hlen] at h1;exact h1)
 have HFi:=hid hfine;have HFw:=hid hfew;have HDp:=hid hdeep;have HStM:=hid hstM;have HLn:Hid (L.length=T.length):=hid hlen;have HRl0:=hid hRl;have HR:=hid hR;have HB15:=hid hb15;have HW5:=hid hW5;have HG5:=hid hg5;have e1:=(hb15.block _ (lt_of_some HC1.out)).trans HC1.out;have hxx1:=Jaa e1 1;have HX1:=hid hxx1;clear hb4 hb5 hb15 hok hstM hlen hfine hfew hRl hdeep hO HSt hW5 hg5 hR x0 x1 e1 hxx1;go_upto_region 6 with fail
 rw [←HG5.out,←HW5.out];clear HW5 HG5;have s0:=Jaa HK.out 0;have s1:=Jaa HK.out 1;have x1:=HX1.out;go_wp2_with fail
 refine HWk.out.mono ?_;rintro e w6 ⟨(⟨j,hOe,hj,_,_,rfl⟩ |⟨t,At,ct,ns,E,hOe,rfl,hpl,hl,hz,hH,hS,hn',hnl,hal,hne,hsp⟩),hb6⟩
 ·rw [show tgV noT none 0= .agg #[.string ⟨#[]⟩,.int .i64 0,.int .i64 0,.int .i64 0,.slice none 0 0] from rfl]
  have gj:(j !=0)=true:=by rw [bne_iff_ne];exact hj
  obtain⟨W7,hW7⟩:=words.nm (w6.alloc (.cells #[.string ⟨#[]⟩,.int .i64 0,.int .i64 0,.int .i64 0,.slice none 0 0] 39));have HF:=hid (HB1.out.trans ((HB15.out.trans ((hb6.trans ((show Below w6.heap.size w6 W7 from words.b1 hW7).mono hb6.size)).mono HB15.out.size)).mono HB1.out.size));have HW7:=hid hW7;clear hW7 hb6 hOe hj HWk;go_upto_region 9 with fail
  rw [←HW7.out];clear HW7 s0 s1 x1;go_wp2_with fail
  go_ret
  exact⟨rfl,HF.out⟩
 obtain⟨g7,hg7⟩:=words.nm (w6.heap.size);obtain⟨W7,hW7⟩:=words.nm (w6.alloc (.cells #[.string t.S,.int .i64 t.K,.int .i64 t.l,.int .i64 t.i,.slice At t.Q.length ct] 39));have hb7:Below w6.heap.size w6 W7:=words.b1 hW7;have hk7:W7.heap[g7]?=some (.cells #[.string t.S,.int .i64 t.K,.int .i64 t.l,.int .i64 t.i,.slice At t.Q.length ct] 39 (0,0)):=by rw [hW7,hg7];exact heap_alloc_new w6 _
 have hb57:Below W5.heap.size W5 W7:=hb6.trans (hb7.mono hb6.size);have hsz:t.S.size≤1000000:=by
  rw [hS];have h1:=fold_size ns ⟨#[47]⟩ hn';have h2:(⟨#[47]⟩:ByteArray).size=1:=rfl;have h3:ns.length*65≤200*65:=Nat.mul_le_mul_right _ hnl;unfold pathOf;omega
 have HSz:=hid hsz;have HK7:=hid hk7;have HB57:=hid hb57;have HF:=hid (HB1.out.trans ((HB15.out.trans (hb57.mono HB15.out.size)).mono HB1.out.size));have x2:=Jaa hk7 1;have HW7:=hid hW7;have HG7:=hid hg7;unfold tgV;clear hOe hpl hl hz hH hS hn' hnl hal hne hsp hb6 hW7 hg7 hb7 hk7 hb57 hsz HWk;by_cases hK2:t.K=2
 rotate_left
 ·have gk:(t.K !=2)=true:=by rw [bne_iff_ne];exact hK2
  go_upto_region 9 with fail
  rw [←HG7.out,←HW7.out];clear HW7 HG7 s0 s1 x1;go_wp2_with fail
  go_ret
  exact⟨rfl,HF.out⟩
 rw [hK2] at x2;clear s0 s1 x1 hK2;have e1:=(HB57.out.block _ (lt_of_some HK.out)).trans HK.out;have s0:=Jaa e1 0;have s1:=Jaa e1 1;clear e1;obtain⟨Rm,hRm⟩:∃Rm:Nat,(Rm:Int)=max room 1:=⟨(max room 1).toNat,by omega⟩
 have HNw:=hid (show Calls prog 8 #[.agg #[.slice A' T.length c',.int .i64 (T.length:Int)],.agg #[.int .i64 3,.int .i64 room,.int .i64 0]] W7 (MadeV A' c' L (T.length:Int) 1 3 Rm W7) from by
   have h1:=Jk0 A' c' L (T.length:Int) 3 room 0 1 3 Rm W7 (by decide) hRm (by decide);rw [HLn.out] at h1;exact h1)
 have HRm:=hid hRm;clear hRm hrm;go_upto_region 9 with fail
 rw [←HG7.out,←HW7.out];clear HW7 HG7;go_wp2_with fail
 refine HNw.out.mono ?_;rintro e w8 ⟨b,gs,gs2,rfl,hgs,hgs2,hsv,hb8⟩;have HSv:=hid hsv;have HGs:=hid (And.intro hgs hgs2);have HB8:=hid hb8;have HB18:=hid (HB15.out.trans ((HB57.out.trans (hb8.mono HB57.out.size)).mono HB15.out.size));clear hgs hgs2 hsv hb8 s0 s1 x2 HNw;have HD:Hid (Below w8.heap.size w8 w8.drew):=hid (Below.refl _ _).drew;have HCE:Hid (∀v,Below w8.heap.size w8 v→v.cell? ⟨w.heap.size,0,none⟩=some (.slice A T.length c)∧v.cell? ⟨g7,0,none⟩=some (.string t.S)):=hid fun v hb=>by
  have e1:=((HB18.out.trans (hb.mono HB18.out.size)).block _ (lt_of_some HC1.out)).trans HC1.out;have e2:=((HB8.out.trans (hb.mono HB8.out.size)).block _ (lt_of_some HK7.out)).trans HK7.out;exact⟨Jaa e1 0,Jaa e2 0⟩
 have HAb:Hid (∀w':World,Below w8.heap.size w8 w'→Calls prog 10 #[.slice A T.length c] w' fun e w''=>(∃Aa ca qs,e= .returned (.slice Aa R.length ca)∧Trees w'' w''.heap.size Aa R qs)∧Below w'.heap.size w' w''):=hid fun w' hb=>by
  have h1:=Jn6 A c T rs w' (HT.out.later (HB18.out.trans (hb.mono HB18.out.size))) (by omega);rw [←HR.out] at h1;exact h1.mono fun e w'' ⟨Aa,ca,qs,h2,h3,_,h4⟩=>⟨⟨Aa,ca,qs,h2,h3⟩,h4⟩
 obtain⟨O2,hO2⟩:=Goes.some (R:=R) (f:=true) HFi.out.all t.S;have HRL:Hid (∀(w':World) (Aa:Option Addr) (ca:Nat) (qs:Nat→Raw),Trees w' w'.heap.size Aa R qs→Calls prog 9 #[.slice Aa R.length ca,.string t.S] w' (RlOwn O2 w')):=hid fun w' Aa ca qs h1=>
  Jnl HFi.out.all (by have:=HRl0.out;omega) Aa ca qs t.S w' h1 HSz.out hO2 (fun _ ns' E' h=>(Jlq HFi.out.all (by have:=HRl0.out;omega) HFw.out (by rw [h] at hO2;exact hO2)).1)
 have HO2:=hid hO2;clear hO2;go_upto_region 12 with fail
 refine held.wpT_start (S:=fun v=>Below w8.heap.size w8 v) (T:=fun _=>false) (by kernel_rfl) ?_;refine held.wpT_take (i:=0) (oi:=⟨some 61,_,_,_,_,_⟩) (v:=?_) rfl (by kernel_rfl) (by kernel_rfl) (by kernel_rfl) (fun _ _ _ h=>h) (Or.inl ⟨by kernel_rfl,?_⟩) ?_
 rotate_left 1
 ·intro _ _;go_simp;(try with_reducible rfl)
 try simp only [words.pt]
 refine held.wpT_load (i:=1) (oi:=⟨some 62,_,_,_,_,_⟩) (v:=?_) rfl (by kernel_rfl) (by kernel_rfl) (by kernel_rfl) (fun _ _ _ h=>h) (by kernel_rfl) (Or.inl ⟨by kernel_rfl,?_⟩) (HD.out) ?_
 rotate_left 1
 focus (intro w' hSw;obtain⟨q0,q1⟩:=HCE.out w' hSw;clear hSw;go_simp;(try with_reducible rfl))
 try simp only [words.pt]
 refine held.wpT_take (i:=3) (oi:=⟨some 64,_,_,_,_,_⟩) (v:=?_) rfl (by kernel_rfl) (by kernel_rfl) (by kernel_rfl) (fun _ _ _ h=>h) (Or.inl ⟨by kernel_rfl,?_⟩) ?_
 rotate_left 1
 ·intro _ _;go_simp;(try with_reducible rfl)
 try simp only [words.pt]
 refine held.wpT_load (i:=4) (oi:=⟨some 65,_,_,_,_,_⟩) (v:=?_) rfl (by kernel_rfl) (by kernel_rfl) (by kernel_rfl) (fun _ _ _ h=>h) (by kernel_rfl) (Or.inl ⟨by kernel_rfl,?_⟩) (HD.out) ?_
 rotate_left 1
 focus (intro w' hSw;obtain⟨q0,q1⟩:=HCE.out w' hSw;clear hSw;go_simp;(try with_reducible rfl))
 try simp only [words.pt]
 refine held.wpT_one (i:=2) (by kernel_rfl) rfl (fun Kc hK=>?_);go_simp
 go_at_call 10
 refine (HAb.out _ HD.out).mono ?_;rintro en v1 ⟨⟨Aa,ca,qs,rfl,hta⟩,hv1⟩;have HV1:=hid (HD.out.trans (hv1.mono HD.out.size));have HRl:=hid (HRL.out v1 Aa ca qs hta);clear hta hv1;refine hK.out _ _ (fun _ _=>HV1.out) ?_;clear hK;try simp only [words.pt]
 refine held.wpT_one (i:=5) (by kernel_rfl) rfl (fun Kc hK=>?_);go_simp
 go_at_call 9
 refine (HRl.out).mono ?_;rintro en v2 hro;have HV2:=hid (HV1.out.trans (hro.2.mono HV1.out.size));obtain⟨l,A1,n1,c1,A2,c2,z,rfl,hrow,hrl,hll⟩:=Jry hro fun ns E h=>Jlq HFi.out.all (by have:=HRl0.out;omega) HFw.out (by have:=HO2.out;rw [h] at this;exact this);refine hK.out _ _ (fun _ _=>HV2.out) ?_;clear hK;try simp only [words.pt]
 refine held.wpT_take (i:=6) (oi:=⟨some 60,_,_,_,_,_⟩) (v:=?_) rfl (by kernel_rfl) (by kernel_rfl) (by kernel_rfl) (fun _ _ _ h=>h) (Or.inl ⟨by kernel_rfl,?_⟩) ?_
 rotate_left 1
 ·intro _ _;go_simp;(try with_reducible rfl)
 try simp only [words.pt]
 refine held.wpT_take (i:=7) (oi:=⟨some 67,_,_,_,_,_⟩) (v:=?_) rfl (by kernel_rfl) (by kernel_rfl) (by kernel_rfl) (fun _ _ _ h=>h) (Or.inl ⟨by kernel_rfl,?_⟩) ?_
 rotate_left 1
 ·intro _ _;go_simp;(try with_reducible rfl)
 try simp only [words.pt]
 refine held.wpT_take (i:=8) (oi:=⟨some 68,_,_,_,_,_⟩) (v:=?_) rfl (by kernel_rfl) (by kernel_rfl) (by kernel_rfl) (fun _ _ _ h=>h) (Or.inl ⟨by kernel_rfl,?_⟩) ?_
 rotate_left 1
 ·intro _ _;go_simp;(try with_reducible rfl)
 try simp only [words.pt]
 refine held.wpT_take (i:=9) (oi:=⟨some 69,_,_,_,_,_⟩) (v:=?_) rfl (by kernel_rfl) (by kernel_rfl) (by kernel_rfl) (fun _ _ _ h=>h) (Or.inl ⟨by kernel_rfl,?_⟩) ?_
 rotate_left 1
 ·intro _ _;go_simp;(try with_reducible rfl)
 try simp only [words.pt]
 refine held.wpT_take (i:=10) (oi:=⟨some 10,_,_,_,_,_⟩) (v:=?_) rfl (by kernel_rfl) (by kernel_rfl) (by kernel_rfl) (fun _ _ _ h=>h) (Or.inl ⟨by kernel_rfl,?_⟩) ?_
 rotate_left 1
 ·intro _ _;go_simp;(try with_reducible rfl)
 try simp only [words.pt]
 refine held.wpT_take (i:=11) (oi:=⟨some 11,_,_,_,_,_⟩) (v:=?_) rfl (by kernel_rfl) (by kernel_rfl) (by kernel_rfl) (fun _ _ _ h=>h) (Or.inl ⟨by kernel_rfl,?_⟩) ?_
 rotate_left 1
 ·intro _ _;go_simp;(try with_reducible rfl)
 try simp only [words.pt]
 refine held.wpT_take (i:=12) (oi:=⟨some 12,_,_,_,_,_⟩) (v:=?_) rfl (by kernel_rfl) (by kernel_rfl) (by kernel_rfl) (fun _ _ _ h=>h) (Or.inl ⟨by kernel_rfl,?_⟩) ?_
 rotate_left 1
 ·intro _ _;go_simp;(try with_reducible rfl)
 try simp only [words.pt]
 refine held.wpT_done (by kernel_rfl) ?_ _;have HRl2:=hid (And.intro hrow hll);obtain⟨i,hi⟩:=words.nm (sha.ofF t.S 3);have hi3:i<3:=by rw [hi];exact sha.ofF_lt _ (by decide)
 obtain⟨gi,hgi⟩:∃gi,gs2[i]?=some gi:=⟨_,List.getElem?_eq_getElem (by rw [HGs.out.2];exact hi3)⟩
 have hnl:(shl.news gs2 Rm).length=3:=by unfold shl.news;rw [List.length_map,HGs.out.2]
 have hRm1:1≤Rm:=by have:=HRm.out;omega
 have HLs:Hid (∀(k:Nat) (w':World),Lsd W7.heap.size b (newD A' c' L (T.length:Int) 1 Rm gs gs2) i gi Rm t.S l k w'→Kept lca.DS W7.heap.size v2 w'→
     Calls prog 11 #[.pointer (some ⟨b.v,0,none⟩),.string t.S] w' fun e w''=>(∃Al cl,e= .returned (.slice Al l.length cl)∧lca.Enr w'' w'.heap.size (.slice Al l.length cl) l)∧Lsd W7.heap.size b (newD A' c' L (T.length:Int) 1 Rm gs gs2) i gi Rm t.S l (k+1) w''∧Kept lca.DS W7.heap.size w' w''):=hid fun k w' hls hk=>by
   have hb2:Below W7.heap.size W7 v2:=HB8.out.trans (HV2.out.mono HB8.out.size);have hb7:Below W7.heap.size W7 w':=hb2.trans (hk.below hb2.size);refine Jqg hls hb7.size (show 0<(shl.news gs2 Rm).length by rw [hnl];decide) (show (shl.news gs2 Rm).length≤256 by rw [hnl];decide) (show i=sha.ofF t.S (shl.news gs2 Rm).length by rw [hnl];exact hi) (show (shl.news gs2 Rm)[i]?=some ⟨gi,none,Rm,[]⟩ by unfold shl.news;rw [List.getElem?_map,hgi];rfl) hRm1 rfl HSz.out hll ?_;exact Jo3 HFi.out.all HFi.out.dirs HDp.out (by have:=HRl0.out;omega) HFw.out (HStM.out.later HB57.out) hb7 c' (T.length:Int) m (Jae HM.out (HB15.out.trans (HB57.out.mono HB15.out.size))) HSz.out HO2.out hrl
 have HI:=hid (And.intro hi3 hRm1);have HS2:Hid (Lsd W7.heap.size b (newD A' c' L (T.length:Int) 1 Rm gs gs2) i gi Rm t.S l 0 v2):=hid (.inl ⟨rfl,HSv.out.later HV2.out⟩);have HB7v:Hid (Below W7.heap.size W7 v2):=hid (HB8.out.trans (HV2.out.mono HB8.out.size));clear hro hrow hrl hll hi hi3 hgi hnl hRm1 HRl HRL HAb HCE HD HV1 HSv hn hT8 g;go_wp2_with fail
 go_loopw [70] (fun v70 wr=>∃(k:Nat),v70= .int .i64 (k:Int)∧k≤2∧Hid (Lsd W7.heap.size b (newD A' c' L (T.length:Int) 1 Rm gs gs2) i gi Rm t.S l k wr)∧Hid (Kept lca.DS W7.heap.size v2 wr)) (fun v70 _=>2 - (intOf v70).toNat)
 case atStart=>exact⟨0,rfl,Nat.zero_le _,HS2,hid (Kept.of_below (Below.refl _ _) _ _)⟩
 case round=>
  obtain⟨k,rfl,hk,HLk,HKk⟩:=hrel;clear HS2;obtain⟨wq,hwq⟩:=words.nm (wr);subst hwq;have HBk:Hid (Below W7.heap.size W7 wq):=hid (HB7v.out.trans (HKk.out.below HB7v.out.size));by_cases hlt:k<2
  ·have x0:=Jaa ((HBk.out.block _ (lt_of_some HK7.out)).trans HK7.out) 0
   have HL:=hid (HLs.out k wq HLk.out HKk.out);have k1:(k:Int)<2:=by omega
   go_wp2_with fail
   refine HL.out.mono ?_;rintro e w10 ⟨⟨Al,cl,rfl,he⟩,hls,hk10⟩;have HE:=hid he;have HLn:=hid hls;have HKn:=hid (HKk.out.trans hk10);have hneq:(l.length !=l.length)=false:=bne_self_eq_false _;obtain⟨B0,hrow⟩:=HRl2.out.1;have HRow:=hid ((HKn.out).own hrow (by unfold lca.DS;decide));clear he hls hk10 hrow x0 HL;have HLi1:Hid (Lies w10 Al (l.flatMap mrg.enC)):=hid (mrg.lies_own (show w10.ownsRow _ _ 2 _ _ (l.flatMap mrg.enC) from HE.out));have HLi2:Hid (Lies w10 A2 (l.flatMap mrg.enC)):=hid (mrg.lies_own HRow.out);have hll:=HRl2.out.2;go_wp2_with fail
   clear hneq;go_loopw [83] (fun v83 wr=>∃(j:Nat),v83= .int .i64 (j:Int)∧j≤l.length∧Hid (Below w10.heap.size w10 wr)) (fun v83 _=>l.length - (intOf v83).toNat)
   case atStart=>exact⟨0,rfl,Nat.zero_le _,hid (Below.refl _ _)⟩
   case round=>
    obtain⟨j,rfl,hj,HBj⟩:=hrel;by_cases hlj:j<l.length
    ·obtain⟨⟨y,K⟩,hx⟩:∃x,l[j]?=some x:=⟨_,List.getElem?_eq_getElem hlj⟩
     obtain⟨b1,off1,hA1,hb1,x0,x1⟩:=mrg.lies_en HLi1.out hx;obtain⟨b2,off2,hA2,hb2,y0,y1⟩:=mrg.lies_en HLi2.out hx;subst hA1 hA2;have x0:=(HBj.out.cell (p:=⟨b1,off1+j*2,none⟩) hb1).trans x0;have x1:=(HBj.out.cell (p:=⟨b1,off1+j*2+1,none⟩) hb1).trans x1;obtain⟨W3,hW3⟩:=words.nm (wr.alloc (.cells #[.string y,.int .i64 K] 55));have hb3:=HBj.out.trans ((show Below wr.heap.size wr W3 from words.b1 hW3).mono HBj.out.size);have hk3:W3.heap[wr.heap.size]?=some (.cells #[.string y,.int .i64 K] 55 (0,0)):=by rw [hW3];exact heap_alloc_new wr _
     have y0:=(hb3.cell (p:=⟨b2,off2+j*2,none⟩) hb2).trans y0;have y1:=(hb3.cell (p:=⟨b2,off2+j*2+1,none⟩) hb2).trans y1;have t0:=Jaa hk3 0;have t3:=Jaa hk3 1;have i0:(0:Int)≤(j:Int):=by omega
     have i1:(j:Int)<(l.length:Int):=by omega
     have hneq:=fun W=>Js2 y K W;have HB3':=hid hb3;have HW3:=hid hW3;clear hx hb1 hb2 hb3 hk3 hW3;go_upto_region 21 with fail
     rw [←HW3.out];clear HW3 x0 x1;go_cut [93] from 88 to 94 (fun v wx=>v= .bool false∧Hid (Below W3.heap.size W3 wx))
     case first=>
      go_quiet (fail)
      go_wp2_with fail
      go_meet
      case rel=>exact⟨rfl,hid (heap.below_drewN (Below.refl _ _) _)⟩
     case rest=>
      obtain⟨rfl,HBx⟩:=hcut;rename World=>Wx;have HBn:=hid (HB3'.out.trans (HBx.out.mono HB3'.out.size));clear t0 t3 y0 y1 i0 i1 hneq;go_wp2_with fail
      go_roundw
      case rel=>exact⟨j+1,by go_num,by omega,HBn⟩
      case measure=>simp [intOf];omega
    ·obtain rfl:j=l.length:=by omega
     have j1:¬((l.length:Nat):Int)<(l.length:Int):=by omega
     have HLn2:=hid (HLn.out.later HBj.out);have HKn2:=hid (HKn.out.trans (Kept.of_below HBj.out _ _));go_wp2_with fail
     go_roundw
     case rel=>exact⟨k+1,by go_num,by omega,HLn2,HKn2⟩
     case measure=>simp [intOf];omega
  ·obtain rfl:k=2:=by omega
   rcases HLk.out with⟨h0,_⟩ |⟨_,bo,A3,c3,lo,hsv,_⟩
   ·cases h0
   obtain⟨D2,hD2⟩:=words.nm ({newD A' c' L (T.length:Int) 1 Rm gs gs2 with Ls:=(newD A' c' L (T.length:Int) 1 Rm gs gs2).Ls.set i ⟨gi,bo,Rm,[(t.S,⟨(newD A' c' L (T.length:Int) 1 Rm gs gs2).ep,A3,l.length,c3⟩)]⟩,z:=1});rw [←hD2] at hsv;have hmo:sha.mostF (lca.nsOf D2.Ls)=1:=by rw [hD2];exact Jl1 HGs.out.2 HI.out.1
   have hN:D2.N.length=3:=by rw [hD2];show (shd.news gs Rm).length=3;unfold shd.news;rw [List.length_map,HGs.out.1]
   have hLn:D2.Ls.length=3:=by rw [hD2];show ((shl.news gs2 Rm).set i _).length=3;rw [List.length_set];unfold shl.news;rw [List.length_map,HGs.out.2]
   have hz1:D2.z=1:=by rw [hD2]
   have HHi:Hid (∃x y:Int,Calls prog 12 #[.pointer (some ⟨b.v,0,none⟩)] wq (Still wq (.tuple #[.int .i64 x,.int .i64 y,.int .i64 1]))):=hid (by
     have h1:=Jkr hsv;rw [hz1] at h1;exact⟨_,_,h1⟩)
   have HFu:Hid (∀w',Below wq.heap.size wq w'→∃q:Int,Calls prog 13 #[.pointer (some ⟨b.v,0,none⟩)] w' (Still w' (.tuple #[.int .i64 q,.int .i64 1]))):=hid fun w' hb=>by
    have h1:=Jq0 (hsv.later hb) (by rw [hN];decide) (by rw [hLn];decide);rw [hmo] at h1;exact⟨_,h1⟩
   have HNl:Hid (∀w',Below wq.heap.size wq w'→∃q:Nat,q<3∧Calls prog 14 #[.pointer (some ⟨b.v,0,none⟩),.string ⟨#[47]⟩,.string ⟨#[97]⟩] w' (Still w' (.agg #[.bool false,.int .i64 (q:Int)]))):=hid fun w' hb=>by
    have h1:=Jii ⟨#[47]⟩ ⟨#[97]⟩ (hsv.later hb) (by rw [hN];decide) (by rw [hN];decide) (by decide) (by decide);exact⟨_,by rw [hN];exact sha.ofF_lt _ (by decide),h1⟩
   have HLl:Hid (∀w',Below wq.heap.size wq w'→∃q:Nat,Calls prog 15 #[.pointer (some ⟨b.v,0,none⟩),.string ⟨#[47]⟩] w' (Still w' (.agg #[.bool true,.int .i64 (q:Int)]))):=hid fun w' hb=>
    ⟨_,Jmw ⟨#[47]⟩ (hsv.later hb) (by rw [hLn];decide) (by rw [hLn];decide) (by decide)⟩
   obtain⟨hx,hy,hhi⟩:=HHi.out;have HHi:=hid hhi;clear hhi hz1 hD2;have k1:¬((2:Nat):Int)<2:=by omega
   have f0:=Jst;have f1:=Js5;clear hsv hmo hN hLn HLs;go_wp2_with fail
   refine HHi.out.mono ?_;rintro e w10 ⟨rfl,hb10⟩;obtain⟨q1,hfu⟩:=HFu.out w10 hb10;have HFu1:=hid hfu;have HB10:=hid hb10;clear hfu hb10 HHi;go_wp2_with fail
   refine HFu1.out.mono ?_;rintro e w11 ⟨rfl,hb11⟩;have HB11:=hid (HB10.out.trans (hb11.mono HB10.out.size));obtain⟨q2,hq2,hn1⟩:=HNl.out w11 HB11.out;have HN1:=hid hn1;have g2:(q2:Int)<3:=by omega
   clear hn1 hb11 HFu1 hq2;go_wp2_with fail
   refine HN1.out.mono ?_;rintro e w12 ⟨rfl,hb12⟩;have HB12:=hid (HB11.out.trans (hb12.mono HB11.out.size));obtain⟨q3,hl1⟩:=HLl.out w12 HB12.out;have HL1:=hid hl1;clear hl1 hb12 HN1;go_wp2_with fail
   refine HL1.out.mono ?_;rintro e w13 ⟨rfl,hb13⟩;have HB13:=hid (HB12.out.trans (hb13.mono HB12.out.size));obtain⟨q4,_,hn2⟩:=HNl.out w13 HB13.out;have HN2:=hid hn2;clear hn2 hb13 HL1;go_wp2_with fail
   refine HN2.out.mono ?_;rintro e w14 ⟨rfl,hb14⟩;have HFin:Hid (Below w.heap.size w w14):=hid (HF.out.trans ((HBk.out.trans ((HB13.out.trans (hb14.mono HB13.out.size)).mono HBk.out.size)).mono HF.out.size));clear hb14 HN2;go_wp2_with fail
   go_ret
   exact⟨rfl,HFin.out⟩
end Go.Proofs.YtkjpgheealfedaaGreatDoor.svr
