import Derived.Test.YtkjpgheealfedaaGreatDoorJU1
import Derived.Test.YtkjpgheealfedaaGreatDoorJM1
set_option maxHeartbeats 12800000
set_option maxRecDepth 100000
open Go.Lib (hid)
open Go.Proofs.Tryz
namespace Go.Proofs.YtkjpgheealfedaaGreatDoor.uni
open Go.RowKit words ext name tre stk Go.Proofs.YtkjpgheealfedaaGreatDoor.seen wlk

def lsE (O:AtO):Int:=match O with
 | .err j=>j
 | .ok _ E=>if (hdN E).K=2 then 0 else 3
def Listed (E:List Nd) (El:List (ByteArray×Int)):Prop:=∃out,heap.Merged (mrg.rowsOf E) out∧mrg.Kinds E (heap.firsts out) El
def LsOut (R:List Nd) (O:AtO) (w:World) (e:Ending) (w':World):Prop:=
 ((lsE O≠0∧e= .returned (.tuple #[.string ⟨#[]⟩,.slice none 0 0,.int .i64 (lsE O)]))∨
  (∃(ns:List ByteArray) (E:List Nd) (El:List (ByteArray×Int)) (Al:Option Addr) (cl:Nat),O= .ok ns E∧lsE O=0∧(∀d∈E,d.K=2)∧(∀d∈E,d.N.length≤4096)∧(∀n∈ns,NmD n)∧ns.length≤200∧Along (D0 R) ns E∧(ns≠[]→E≠[])∧Listed E El∧El.length≤1000000∧
     e= .returned (.tuple #[.string (pathOf ns),.slice Al El.length cl,.int .i64 0])∧Lies w' Al (El.flatMap mrg.enC)∧El.length≤cl∧(Al=none→cl=0)))∧Below w.heap.size w w'
def LsOwn (R:List Nd) (O:AtO) (w:World) (e:Ending) (w':World):Prop:=
 ((lsE O≠0∧e= .returned (.tuple #[.string ⟨#[]⟩,.slice none 0 0,.int .i64 (lsE O)]))∨
  (∃(ns:List ByteArray) (E:List Nd) (El:List (ByteArray×Int)) (Al:Option Addr) (cl:Nat),O= .ok ns E∧lsE O=0∧(∀d∈E,d.K=2)∧(∀d∈E,d.N.length≤4096)∧(∀n∈ns,NmD n)∧ns.length≤200∧Along (D0 R) ns E∧(ns≠[]→E≠[])∧Listed E El∧El.length≤1000000∧
     e= .returned (.tuple #[.string (pathOf ns),.slice Al El.length cl,.int .i64 0])∧w'.ownsRow w.heap.size 55 2 (.slice Al El.length cl) El.length (El.flatMap mrg.enC)))∧Below w.heap.size w w'
theorem LsOwn.out {R:List Nd} {O:AtO} {w:World} {e:Ending} {w':World} (h:LsOwn R O w e w'):LsOut R O w e w':=by
 obtain⟨h |⟨ns,E,El,Al,cl,a1,a2,a3,a4,a5,a6,a7,a8,a9,b1,b2,how⟩,hb⟩:=h
 ·exact⟨.inl h,hb⟩
 ·obtain⟨A0,c0,hA0,h1,h2⟩:=tre.own_facts how
  injection hA0 with e1 _ e2;subst e1 e2;exact⟨.inr ⟨ns,E,El,Al,cl,a1,a2,a3,a4,a5,a6,a7,a8,a9,b1,b2,mrg.lies_own how,h1,fun h=>(h2 h).2⟩,hb⟩
theorem own_base {w:World} {B B':Nat} {e:TypeId} {size n:Nat} {v:Value} {xs:List Value} (h:w.ownsRow B' e size v n xs) (hB:B≤B'):w.ownsRow B e size v n xs:=by
 refine⟨h.1,?_⟩;rcases h.2 with hz |⟨b,c,cur,hv,hb,r⟩
 ·exact .inl hz
 ·exact .inr ⟨b,c,cur,hv,Nat.le_trans hB hb,r⟩
theorem Jmd {D:List Nd} {out:List heap.It} {E:List (ByteArray×Int)} (hm:heap.Merged (mrg.rowsOf D) out) (hk:mrg.Kinds D (heap.firsts out) E) (hc:∀d∈D,d.N.length≤4096) (hl:D.length≤64):E.length≤1000000:=by
 have h1:=mrg.tot_le (L:=mrg.rowsOf D) (K:=4096) fun l hl=>by
  obtain⟨i,hi⟩:=List.mem_iff_getElem?.1 hl;obtain⟨d,hd,rfl⟩:=mrg.rows_at hi;exact hc d (List.mem_of_getElem? hd)
 rw [mrg.rows_len] at h1;have h2:D.length*4096≤64*4096:=Nat.mul_le_mul_right _ hl;have h3:=hm.1.length_eq;have h4:(heap.allF (mrg.rowsOf D)).length≤D.length*4096:=h1;have h5:=hk.len;have h6:=heap.firsts_le out;omega
theorem Jiv {R:List Nd} (hg:∀t∈R,allB t=true) (hK:∀t∈R,t.K=2) (hk:∀d∈R,depth d<100) (hR:R.length≤64) (hct:∀x d,seen.At R x d→d.N.length≤4096) (A:Option Addr) (c:Nat) (ad:Int) (L:List (Nat×Int)) (mx:Int) (p:ByteArray) (w:World) (hst:StkM w A L (tabs R))
  (hmx:w.cell? ⟨0,0,none⟩=some (.int .i64 mx)) (hp:p.size≤1000000) {O:AtO} (hO:Goes R true p O):
  Calls prog 39 #[stkV A L.length c ad,.string p] w (LsOwn R O w):=by
 obtain⟨W1,hW1⟩:=words.nm (w.alloc (.cells #[.slice A L.length c,.int .i64 ad] 29));have hb1:=words.b1 hW1;have hs1:W1.heap[w.heap.size]?=some (.cells #[.slice A L.length c,.int .i64 ad] 29 (0,0)):=by rw [hW1];exact heap_alloc_new w _
 have s0:=Jaa hs1 0;have s1:=Jaa hs1 1;have HS:=hid hs1;have HB1:=hid hb1;have HSt:=hid (hst.later hb1);have HWk:=hid (show Calls prog 7 #[.agg #[.slice A L.length c,.int .i64 ad],.string p,.bool true] W1 (WalkedTo R O W1) from Jkw hg hK hk hR A c ad L mx p true O hO W1 (hst.later hb1) (Jae hmx hb1) hp);have HH:=hid (And.intro hg (And.intro hct hR));have HW1:=hid hW1;clear hW1 hb1 hs1 hst hmx hg hct hK hk hR hp hO;unfold stkV;go_enter func39,ntmps39
 go_upto_region 1 with fail
 rw [←HW1.out];clear HW1;go_wp2_with fail
 refine HWk.out.mono ?_;rintro e w2 ⟨(⟨j,hOe,hj,_,_,rfl⟩ |⟨t,At,ct,ns,E,hOe,rfl,hpl,hl,hz,hH,hS,hn,hnl,hal,hne,hsp⟩),hb2⟩
 ·rw [show tgV noT none 0= .agg #[.string ⟨#[]⟩,.int .i64 0,.int .i64 0,.int .i64 0,.slice none 0 0] from rfl]
  obtain⟨W3,hW3⟩:=words.nm (w2.alloc (.cells #[.string ⟨#[]⟩,.int .i64 0,.int .i64 0,.int .i64 0,.slice none 0 0] 39));have hb3:Below w2.heap.size w2 W3:=words.b1 hW3;have HF:=hid (HB1.out.trans ((hb2.trans (hb3.mono hb2.size)).mono HB1.out.size));have HOe:=hid hOe;have HJ:=hid hj;have gj:(j !=0)=true:=by rw [bne_iff_ne];exact hj
  have HW3:=hid hW3;clear hW3 hb3 hb2 hOe hj HWk;go_upto_region 2 with fail
  rw [←HW3.out];clear HW3 s0 s1;go_wp2_with fail
  exact bodyPost_ret (v:= .tuple #[.string ⟨#[]⟩,.slice none 0 0,.int .i64 j]) (by simp [results,results39,go_sem]) rfl ⟨.inl ⟨by rw [HOe.out];exact HJ.out,by rw [HOe.out];rfl⟩,HF.out⟩
 obtain⟨W3,hW3⟩:=words.nm (w2.alloc (.cells #[.string t.S,.int .i64 t.K,.int .i64 t.l,.int .i64 t.i,.slice At t.Q.length ct] 39));have hx3:W3.heap[w2.heap.size]?=some (.cells #[.string t.S,.int .i64 t.K,.int .i64 t.l,.int .i64 t.i,.slice At t.Q.length ct] 39 (0,0)):=by rw [hW3];exact heap_alloc_new w2 _
 have hb3:Below w2.heap.size w2 W3:=words.b1 hW3;have HB3:=hid (hb2.trans (hb3.mono hb2.size));have HX3:=hid hx3;have x1:=Jaa hx3 1;have HW3:=hid hW3;have HPl:=hid ((hpl.keep hb3).more hb3.size);have HOe:=hid hOe;have HSp:Hid (t.S=pathOf ns):=hid hS;clear hW3 hb3 hb2 hx3 HWk hpl hS hl hz hsp;unfold tgV;rcases hH with hH |⟨lv,nd,d,rfl,hKd,_,hKt,h6,h7,h8⟩
 rotate_left 1
 ·have HF:=hid (HB1.out.trans (HB3.out.mono HB1.out.size))
  have HE3:Hid (lsE O=3):=hid (by
    rw [HOe.out];unfold lsE;exact if_neg (show ¬d.K=2 by omega))
  have gk:(t.K !=2)=true:=by rw [bne_iff_ne,hKt];omega
  clear hKd hKt hOe h6 h7 h8 hn hnl hal hne;go_upto_region 2 with fail
  rw [←HW3.out];clear HW3 s0 s1;go_wp2_with fail
  exact bodyPost_ret (v:= .tuple #[.string ⟨#[]⟩,.slice none 0 0,.int .i64 3]) (by simp [results,results39,go_sem]) rfl ⟨.inl ⟨by rw [HE3.out];decide,by rw [HE3.out]⟩,HF.out⟩
 obtain⟨hdir,hK2,hats,hup,h6,h7⟩:=hH;clear h6 h7;have HEr:Hid (lsE O=0):=hid (by
   rw [HOe.out];unfold lsE;refine if_pos ?_;rcases E with _ |⟨d,E⟩
   ·rfl
   ·exact hdir d (List.mem_cons_self ..))
 have hcd:∀d∈E,d.N.length≤4096:=fun d hd=>by
  obtain⟨x,_,hx⟩:=hats.mem d hd;exact HH.out.2.1 x d hx
 have hel:E.length≤64:=by
  have h1:=hal.len;have h2:(D0 R).length≤R.length:=by unfold D0;rw [List.length_take];exact Nat.min_le_right _ _
  have h3:=HH.out.2.2;omega
 have hql:t.Q.length≤64:=by rw [hats.length];exact hel
 have HFew:Hid (∀out El,heap.Merged (mrg.rowsOf E) out→mrg.Kinds E (heap.firsts out) El→El.length≤1000000):=hid fun out El h1 h2=>Jmd h1 h2 hcd hel;have HAll:=hid (And.intro hdir (And.intro hcd (And.intro hn (And.intro hnl (And.intro hal hne)))));have HLi:Hid (∀w':World,Below W3.heap.size W3 w'→Calls prog 80 #[.agg #[.slice A L.length c,.int .i64 ad],.slice At t.Q.length ct] w' (mrg.ListOut E w')):=hid fun w' hb=>by
  have hb':=HB3.out.trans (hb.mono HB3.out.size);exact mrg.list_any HH.out.1 hats hcd A c ad L At ct w' (HSt.out.later hb') ((HPl.out.keep hb).more hb.size) hql
 have HSS:Hid (∀w':World,Below W3.heap.size W3 w'→(w'.cell? ⟨w.heap.size,0,none⟩=some (.slice A L.length c)∧w'.cell? ⟨w.heap.size,1,none⟩=some (.int .i64 ad)∧w'.cell? ⟨w2.heap.size,0,none⟩=some (.string t.S)∧w'.cell? ⟨w2.heap.size,4,none⟩=some (.slice At t.Q.length ct)∧Below W3.heap.size W3 w')):=hid fun w' hb=>by
  have hb':=HB3.out.trans (hb.mono HB3.out.size);have e1:=(hb'.block _ (lt_of_some HS.out)).trans HS.out;have e2:=(hb.block _ (lt_of_some HX3.out)).trans HX3.out;exact⟨Jaa e1 0,Jaa e1 1,Jaa e2 0,Jaa e2 4,hb⟩
 have HBv:Hid (Below W3.heap.size W3 W3.drew):=hid (Below.refl _ _).drew;rw [hK2] at x1;clear hdir hK2 hats hup hcd hel hql hn hnl hal hne hOe;go_upto_region 2 with fail
 rw [←HW3.out];clear HW3 s0 s1;go_upto_region 6 with fail
 refine wp_region_held_drew (S:=fun w'=>(w'.cell? ⟨w.heap.size,0,none⟩=some (.slice A L.length c)∧w'.cell? ⟨w.heap.size,1,none⟩=some (.int .i64 ad)∧w'.cell? ⟨w2.heap.size,0,none⟩=some (.string t.S)∧w'.cell? ⟨w2.heap.size,4,none⟩=some (.slice At t.Q.length ct)∧Below W3.heap.size W3 w')) (by kernel_rfl) (HSS.out _ HBv.out) (fun hHeld=>?_);refine words.tk 0 22 (v:=?_) ?_ ?_
 rotate_left 1
 ·intro _ h;(try dsimp only at h);go_simp;(try with_reducible rfl)
 try simp only [words.pt]
 refine words.tk 1 23 (v:=?_) ?_ ?_
 rotate_left 1
 ·intro _ h;(try dsimp only at h);go_simp;(try with_reducible rfl)
 try simp only [words.pt]
 refine words.tk 2 24 (v:=?_) ?_ ?_
 rotate_left 1
 ·intro _ h;(try dsimp only at h);go_simp;(try with_reducible rfl)
 try simp only [words.pt]
 refine words.tk 3 25 (v:=?_) ?_ ?_
 rotate_left 1
 ·intro _ h;(try dsimp only at h);go_simp;(try with_reducible rfl)
 try simp only [words.pt]
 refine words.tk 4 26 (v:=?_) ?_ ?_
 rotate_left 1
 ·intro _ h;(try dsimp only at h);go_simp;(try with_reducible rfl)
 try simp only [words.pt]
 refine words.tk 5 27 (v:=?_) ?_ ?_
 rotate_left 1
 ·intro _ h;(try dsimp only at h);go_simp;(try with_reducible rfl)
 try simp only [words.pt]
 refine wpAnyH_ready (rs:=[6]) (by kernel_rfl) (by simp) (.cons rfl (fun K hK=>?_) .nil);go_simp
 go_at_call 80
 refine (HLi.out _ HBv.out).mono ?_;rintro en v1 ⟨out,El,Al,cl,hmg,hkn,rfl,how,hv1⟩;have hq1:=HBv.out.trans (hv1.mono HBv.out.size);clear hHeld;refine hK.out _ _ (HSS.out _ hq1) (fun hHeld=>?_);clear hK;refine words.tk 7 4 (v:=?_) ?_ ?_
 rotate_left 1
 ·intro _ h;(try dsimp only at h);go_simp;(try with_reducible rfl)
 try simp only [words.pt]
 refine words.tk 8 5 (v:=?_) ?_ ?_
 rotate_left 1
 ·intro _ h;(try dsimp only at h);go_simp;(try with_reducible rfl)
 try simp only [words.pt]
 refine words.tk 9 6 (v:=?_) ?_ ?_
 rotate_left 1
 ·intro _ h;(try dsimp only at h);go_simp;(try with_reducible rfl)
 try simp only [words.pt]
 refine wpAnyH_done (by kernel_rfl) ?_ _;have HF:=hid (HB1.out.trans ((HB3.out.trans (hq1.mono HB3.out.size)).mono HB1.out.size));have HLe:=hid (HFew.out _ _ hmg hkn);have HLd:Hid (Listed E El):=hid ⟨out,hmg,hkn⟩;have HOw:=hid (own_base how (Nat.le_trans HB1.out.size (Nat.le_trans HB3.out.size HBv.out.size)));clear hHeld hv1 hq1 hmg hkn how HLi HFew HSS HBv x1;go_wp2_with fail
 obtain⟨a1,a2,a3,a4,a5,a6⟩:=HAll.out;exact bodyPost_ret (v:= .tuple #[.string t.S,.slice Al El.length cl,.int .i64 0]) (by simp [results,results39,go_sem]) rfl ⟨.inr ⟨ns,E,El,Al,cl,HOe.out,HEr.out,a1,a2,a3,a4,a5,a6,HLd.out,HLe.out,by rw [HSp.out],HOw.out⟩,HF.out⟩
end Go.Proofs.YtkjpgheealfedaaGreatDoor.uni
