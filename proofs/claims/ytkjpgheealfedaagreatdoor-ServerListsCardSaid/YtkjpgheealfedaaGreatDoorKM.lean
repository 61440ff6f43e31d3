import Derived.Test.YtkjpgheealfedaaGreatDoorKL
set_option maxHeartbeats 6400000
set_option maxRecDepth 100000
open Go.Lib (hid)
open Go.Proofs.Tryz
namespace Go.Proofs.YtkjpgheealfedaaGreatDoor.svr
open Go.RowKit words lru

theorem Je5 (A:Option Addr) (n c:Nat) (ad:Int) (Ap:Option Addr) (np cp:Nat) (s:ByteArray) (th:Bool) (ep kd lv nd:Int) (P:List (Int×Int)) (tg:ByteArray) (w:World) (hS:Seeing w A n c ad Ap np cp s th kd lv nd P tg):
  Calls prog 51 #[.agg #[.slice A n c,.int .i64 ad],.int .i64 ep,.slice Ap np cp,.string s] w (Seen w th ep kd lv nd P tg):=by
 by_cases hk:kd=3
 ·exact Jo0 A n c ad Ap np cp s th ep kd lv nd P tg w hS hk
 ·exact Jl3 A n c ad Ap np cp s th ep kd lv nd P tg w hS hk
def mine:List TypeId:=[103,111,204,117,169,170,222,253,120,173,174,225,270]
section
variable {w w':World} {B:Nat} {b:Bk} {d:Sd} {T:TypeId→Prop}
theorem Sv.frm (h:Sv w B b d) (m:Frm T (fun _=>False) w w') (hT:∀t∈mine,¬T t):Sv w' B b d:=by
 unfold mine at hT;simp only [List.forall_mem_cons,List.mem_nil_iff,false_implies,implies_true,and_true] at hT;obtain⟨a1,a2,a3,b1,b2,b3,b4,b5,c1,c2,c3,c4,c5⟩:=hT;exact⟨h.ge,m.blk h.blk a1,m.spc h.st a2 a3 (fun h=>h),m.dca h.dc b1 b2 b3 b4 b5,m.lca h.lc c1 c2 c3 c4 c5,m.mapL h.lk (fun h=>h),h.mp,h.ne⟩
theorem Sv.named {N:List shd.Cc} {x y:Int} (h:Sv w B b d) (hk:Kept dca.DS B w w') (hd:dca.Dc w' B b.q b.h N x y):Sv w' B b {d with N:=N,x:=x,y:=y}:=
 have m:=Frm.of_kept hk
 ⟨h.ge,m.blk h.blk (by unfold dca.DS;decide),m.spc h.st (by unfold dca.DS;decide) (by unfold dca.DS;decide) (fun h=>h),hd,m.lca h.lc (by unfold dca.DS;decide) (by unfold dca.DS;decide) (by unfold dca.DS;decide) (by unfold dca.DS;decide) (by unfold dca.DS;decide),m.mapL h.lk (fun h=>h),h.mp,h.ne⟩
theorem Je7 {S:TypeId→Prop} {u:World} {g:Nat} (h:Kept S B w u) (ht:Tn (fun k=>k=g) u w') (hg:w.heap.size≤g):Kept S B w w':=
 ⟨ht.os.trans h.os,ht.tape.trans h.tape,ht.output.trans h.output,Nat.le_trans h.size ht.size,fun k hk hc=>(ht.block k (Nat.lt_of_lt_of_le hk h.size) (by omega)).trans (h.block k hk hc)⟩
end
theorem Jeb {κ ν:Type} [DecidableEq κ] (L:List (κ×ν)) (k:κ):val (getL L k) k=val L k:=by
 rcases h:val L k with _ |v
 ·unfold getL;rw [h];exact h
 ·unfold getL;rw [h];simp [val]
theorem Jr6 {κ ν:Type} [DecidableEq κ] (L:List (κ×ν)) (k:κ):getL (getL L k) k=getL L k:=by
 rcases h:val L k with _ |v
 ·have e:getL L k=L:=by unfold getL;rw [h]
  rw [e,e]
 ·have e:getL L k=(k,v)::rest L k:=by unfold getL;rw [h]
  have e2:getL (getL L k) k=(k,v)::rest (getL L k) k:=by
   have h2:=Jeb L k;rw [h] at h2;rw [show getL (getL L k) k=(match val (getL L k) k with |some v=>(k,v)::rest (getL L k) k |none=>getL L k) from rfl,h2]
  rw [e2,Jhg,e]
section
variable {B:Nat} {b:Bk} {d:Sd} {w:World} {i:Nat} {c:shd.Cc} {ep:Int} {dir s k:ByteArray} {A:Option Addr} {n ca:Nat} {ad:Int} {Ap:Option Addr} {np cp:Nat} {P:List (Int×Int)}
def HitV (w:World) (B:Nat) (b:Bk) (d:Sd) (i:Nat) (c:shd.Cc) (k:ByteArray) (v:lrd.Ent) (P:List (Int×Int)) (e:Ending) (w':World):Prop:=
 ∃Af cf bo,e= .returned (.agg #[.int .i64 v.ep,.bool v.th,.int .i64 v.kd,.int .i64 v.lv,.int .i64 v.nd,.slice Af v.dn cf,.string v.tg])∧dca.Sp w' w.heap.size Af v.dn P∧Sv w' B b {d with N:=d.N.set i ⟨c.g,bo,c.r,getL c.L k⟩,x:=d.x+1}∧Kept dca.DS B w w'
theorem Jr7 (h:Sv w B b d) (hB:B≤w.heap.size) (hk:k=dca.childB dir s) (h1:0<d.N.length) (h2:d.N.length≤256) (hki:i=sha.ofF k d.N.length) (hi:d.N[i]?=some c) (hlen:c.L.length≤900) (hd:dir.size≤1000000) (hs:s.size≤1000000) (hx:0≤d.x∧d.x≤1000000) (hP:P.length≤1000) (lo:Nat) (hgot:lrd.gotB c.L k=true) (hep:(lrd.gotI c.L k).ep=ep) (hsp:dca.Sp w lo (lrd.gotI c.L k).da (lrd.gotI c.L k).dn P):
  Calls prog 20 #[.pointer (some ⟨b.v,0,none⟩),.agg #[.slice A n ca,.int .i64 ad],.int .i64 ep,.string dir,.slice Ap np cp,.string s] w (HitV w B b d i c k (lrd.gotI c.L k) P):=by
 obtain⟨W1,g1,hW1,hg,hx1,hz,hb1,hs1⟩:=boxes2 w #[.slice A n ca,.int .i64 ad] 29 #[.int .i64 0,.bool false,.int .i64 0,.int .i64 0,.int .i64 0,.slice none 0 0,.string ⟨#[]⟩] 75;have hS1:=h.later hb1;have c6:=Jaa hS1.blk 6;have HC:=hid (dca.look_yes B b.q b.h i c d.N d.x d.y ep dir s k W1 hS1.dc (Nat.le_trans hB hb1.size) hk h1 h2 hki hi (by omega) hd hs hx lo P hP hgot hep (hsp.later hb1));obtain⟨v,hv⟩:=words.nm (lrd.gotI c.L k);rw [←hv] at HC ⊢;have HS1:=hid hS1;have HZ:=hid hz;have HB1:=hid hb1;have HW1:=hid hW1;have HG:=hid hg;clear h hB hk h1 h2 hki hi hlen hd hs hx hP hgot hep hsp hW1 hg hx1 hz hb1 hs1 hS1 hv;go_enter func20,ntmps20
 go_upto_region 1 with fail
 rw [←HW1.out,←HG.out];go_wp2_with fail
 refine HC.out.mono ?_;rintro e w2 ⟨Af,cf,rfl,hsp2,⟨bo,hd2⟩,hk2⟩;obtain⟨b1,hB1⟩:=words.nm (w2.heap.size);obtain⟨W3,hW3⟩:=words.nm (w2.alloc (.cells #[.int .i64 v.ep,.bool v.th,.int .i64 v.kd,.int .i64 v.lv,.int .i64 v.nd,.slice Af v.dn cf,.string v.tg] 75));have hb3:Below w2.heap.size w2 W3:=words.b1 hW3;have hk3:W3.heap[b1]?=some (.cells #[.int .i64 v.ep,.bool v.th,.int .i64 v.kd,.int .i64 v.lv,.int .i64 v.nd,.slice Af v.dn cf,.string v.tg] 75 (0,0)):=by rw [hW3,hB1];exact heap_alloc_new w2 _
 have hg1:W3.heap[g1]?=some (.cells #[.int .i64 0,.bool false,.int .i64 0,.int .i64 0,.int .i64 0,.slice none 0 0,.string ⟨#[]⟩] 75 (0,0)):=by
  have:=hk2.blk HZ.out (by unfold dca.DS;decide);exact (hb3.block _ (lt_of_some this)).trans this
 obtain⟨W9,hW9⟩:=words.nm (((((((W3.setCell ⟨g1,0,none⟩ (.int .i64 v.ep)).setCell ⟨g1,1,none⟩ (.bool v.th)).setCell ⟨g1,2,none⟩ (.int .i64 v.kd)).setCell ⟨g1,3,none⟩ (.int .i64 v.lv)).setCell ⟨g1,4,none⟩ (.int .i64 v.nd)).setCell ⟨g1,5,none⟩ (.slice Af v.dn cf)).setCell ⟨g1,6,none⟩ (.string v.tg));have h9:W9=setsV W3 g1 0 [.int .i64 v.ep,.bool v.th,.int .i64 v.kd,.int .i64 v.lv,.int .i64 v.nd,.slice Af v.dn cf,.string v.tg]:=hW9;have hk9:W9.heap[g1]?=some (.cells #[.int .i64 v.ep,.bool v.th,.int .i64 v.kd,.int .i64 v.lv,.int .i64 v.nd,.slice Af v.dn cf,.string v.tg] 75 (0,0)):=by rw [h9];exact Jak hg1 rfl
 have ht9:Tn (fun k=>k=g1) W3 W9:=by rw [h9];exact Jan (S:=fun k=>k=g1) _ (.inr rfl) _ _ _ (Tn.refl _ _)
 have hkt9:Kept (fun t=>t=75) 0 W3 W9:=ht9.kept (fun k hk=>by subst hk;exact⟨Nat.zero_le _,_,_,_,hg1,rfl⟩);have hS9:=((HS1.out.named hk2 hd2).later hb3).frm (Frm.of_kept hkt9) (by decide);have hK9:=Je7 (((Kept.of_below HB1.out dca.DS B).trans hk2).trans (Kept.of_below hb3 dca.DS B)) ht9 (by rw [HG.out];omega);have hsp9:=((hsp2.later hb3).kept hkt9 (by decide)).mono HB1.out.size;have HE:Hid (HitV w B b d i c k v P (.returned (.agg #[.int .i64 v.ep,.bool v.th,.int .i64 v.kd,.int .i64 v.lv,.int .i64 v.nd,.slice Af v.dn cf,.string v.tg])) W9):=hid ⟨Af,cf,bo,rfl,hsp9,hS9,hK9⟩;have e0:=Jaa hk3 0;have e1:=Jaa hk3 1;have e2:=Jaa hk3 2;have e3:=Jaa hk3 3;have e4:=Jaa hk3 4;have e5:=Jaa hk3 5;have e6:=Jaa hk3 6;have y0:=Jaa hg1 0;have y1:=Jaa hg1 1;have y2:=Jaa hg1 2;have y3:=Jaa hg1 3;have y4:=Jaa hg1 4;have y5:=Jaa hg1 5;have y6:=Jaa hg1 6;have z0:=Jab hg1 0;have z1:=Jab hg1 1;have z2:=Jab hg1 2;have z3:=Jab hg1 3;have z4:=Jab hg1 4;have z5:=Jab hg1 5;have z6:=Jab hg1 6;have p0:=Jaa hk9 0;have p1:=Jaa hk9 1;have p2:=Jaa hk9 2;have p3:=Jaa hk9 3;have p4:=Jaa hk9 4;have p5:=Jaa hk9 5;have p6:=Jaa hk9 6;have HW3:=hid hW3;have HW9:=hid hW9;have HBe:=hid hB1;clear hsp2 hd2 hk2 hb3 hk3 hg1 h9 hk9 ht9 hkt9 hS9 hK9 hsp9 hW3 hW9 hB1;clear c6;go_upto_region 2 with fail
 rw [←HBe.out,←HW3.out];go_wp2_with fail
 try rw [←HW9.out]
 exact bodyPost_ret (v:= .agg #[.int .i64 v.ep,.bool v.th,.int .i64 v.kd,.int .i64 v.lv,.int .i64 v.nd,.slice Af v.dn cf,.string v.tg]) (by simp [results,results20,go_sem,p0,p1,p2,p3,p4,p5,p6]) rfl HE.out
def seeL (L:List (ByteArray×lrd.Ent)) (r:Nat) (k:ByteArray) (v:lrd.Ent):List (ByteArray×lrd.Ent):=if lrd.gotB L k=true∧v.ep<(lrd.gotI L k).ep then getL L k else putL L r k v
def MissV (w:World) (B:Nat) (b:Bk) (d:Sd) (i:Nat) (c:shd.Cc) (k:ByteArray) (th:Bool) (ep kd lv nd:Int) (P:List (Int×Int)) (tg:ByteArray) (e:Ending) (w':World):Prop:=
 ∃Af cf bo A2 c2,e= .returned (.agg #[.int .i64 ep,.bool th,.int .i64 kd,.int .i64 lv,.int .i64 nd,.slice Af P.length cf,.string tg])∧dca.Sp w' 0 Af P.length P∧dca.Sp w' 0 A2 P.length P∧Sv w' B b {d with N:=d.N.set i ⟨c.g,bo,c.r,seeL c.L c.r k ⟨ep,th,kd,lv,nd,A2,P.length,c2,tg⟩⟩,y:=d.y+1}∧Kept dca.DS B w w'
theorem Jp5 {w:World} {B:Nat} {b:Bk} {d:Sd} {i:Nat} {c:shd.Cc} {bo:Option Nat} {dir s k:ByteArray} {y':Int} (th:Bool) (ep kd lv nd:Int) (Af:Option Addr) (cf:Nat) (P:List (Int×Int)) (tg:ByteArray) (hdc:dca.Dc w B b.q b.h (d.N.set i ⟨c.g,bo,c.r,getL c.L k⟩) d.x y') (hB:B≤w.heap.size) (hk:k=dca.childB dir s) (h1:0<d.N.length) (h2:d.N.length≤256) (hki:i=sha.ofF k d.N.length) (hi:d.N[i]?=some c) (hok:Ok c.L c.r) (hlen:c.L.length≤900) (hd:dir.size≤1000000) (hs:s.size≤1000000) (hP:P.length≤1000) (hsp:dca.Sp w 0 Af P.length P):
  Calls prog 52 #[.pointer (some ⟨b.q,0,none⟩),.string dir,.string s,.agg #[.int .i64 ep,.bool th,.int .i64 kd,.int .i64 lv,.int .i64 nd,.slice Af P.length cf,.string tg]] w fun e w'=>∃u bo' A2 c2,e= .returned (.bool u)∧dca.Sp w' 0 A2 P.length P∧dca.Dc w' B b.q b.h (d.N.set i ⟨c.g,bo',c.r,seeL c.L c.r k ⟨ep,th,kd,lv,nd,A2,P.length,c2,tg⟩⟩) d.x y'∧Kept dca.DS B w w':=by
 have hlt:i<d.N.length:=(List.getElem?_eq_some_iff.1 hi).1;have hi2:(d.N.set i ⟨c.g,bo,c.r,getL c.L k⟩)[i]?=some ⟨c.g,bo,c.r,getL c.L k⟩:=by rw [List.getElem?_set_self hlt]
 have hgB:lrd.gotB (getL c.L k) k=lrd.gotB c.L k:=by unfold lrd.gotB;rw [Jeb]
 have hgI:lrd.gotI (getL c.L k) k=lrd.gotI c.L k:=by unfold lrd.gotI;rw [Jeb]
 have hl2:(getL c.L k).length≤900:=by rw [Jg4 hok];exact hlen
 by_cases hc:lrd.gotB c.L k=true∧ep<(lrd.gotI c.L k).ep
 ·refine (dca.keep_no B b.q b.h i ⟨c.g,bo,c.r,getL c.L k⟩ _ d.x y' ⟨ep,th,kd,lv,nd,Af,P.length,cf,tg⟩ dir s k w hdc hB hk (by rw [List.length_set];exact h1) (by rw [List.length_set];exact h2) (by rw [List.length_set];exact hki) hi2 hl2 hd hs (by rw [hgB,hgI];exact hc)).mono ?_
  rintro e w' ⟨h0,⟨bo',h3⟩,h4⟩;rw [List.set_set,Jr6] at h3;refine⟨_,bo',Af,cf,h0,?_,?_,h4⟩
  ·exact hsp.kept h4 (by unfold dca.DS;decide)
  ·unfold seeL;rw [if_pos hc];exact h3
 ·refine (dca.keep_yes B b.q b.h i ⟨c.g,bo,c.r,getL c.L k⟩ _ d.x y' ⟨ep,th,kd,lv,nd,Af,P.length,cf,tg⟩ dir s k w hdc hB hk (by rw [List.length_set];exact h1) (by rw [List.length_set];exact h2) (by rw [List.length_set];exact hki) hi2 hl2 hd hs 0 P hP hsp (by
    rw [hgB,hgI];rcases hg:lrd.gotB c.L k with _ |_
    ·exact .inl rfl
    ·right
     have:=fun h=>hc ⟨hg,h⟩;exact Int.not_lt.1 this)).mono ?_
  rintro e w' ⟨h0,A2,c2,h5,⟨bo',h3⟩,h4⟩;rw [List.set_set,Jhw] at h3;refine⟨_,bo',A2,c2,h0,h5.mono (Nat.zero_le _),?_,h4⟩;unfold seeL;rw [if_neg hc];exact h3
theorem Jpm (h:Sv w B b d) (hB:B≤w.heap.size) (hk:k=dca.childB dir s) (h1:0<d.N.length) (h2:d.N.length≤256) (hki:i=sha.ofF k d.N.length) (hi:d.N[i]?=some c) (hlen:c.L.length≤900) (hd:dir.size≤1000000) (hs:s.size≤1000000) (hok:Ok c.L c.r) (hy:0≤d.y∧d.y≤1000000) (hno:lrd.gotB c.L k=false∨(lrd.gotI c.L k).ep≠ep) {th:Bool} {kd lv nd:Int} {tg:ByteArray} (hP:P.length≤1000)
  (hse:∀w',Kept dca.DS B w w'→Seeing w' A n ca ad Ap np cp s th kd lv nd P tg):
  Calls prog 20 #[.pointer (some ⟨b.v,0,none⟩),.agg #[.slice A n ca,.int .i64 ad],.int .i64 ep,.string dir,.slice Ap np cp,.string s] w (MissV w B b d i c k th ep kd lv nd P tg):=by
 obtain⟨W1,g1,hW1,hg,hx1,hz,hb1,hs1⟩:=boxes2 w #[.slice A n ca,.int .i64 ad] 29 #[.int .i64 0,.bool false,.int .i64 0,.int .i64 0,.int .i64 0,.slice none 0 0,.string ⟨#[]⟩] 75;have hS1:=h.later hb1;have c6:=Jaa hS1.blk 6;have HC:=hid (dca.look_no B b.q b.h i c d.N d.x d.y ep dir s k W1 hS1.dc (Nat.le_trans hB hb1.size) hk h1 h2 hki hi (by omega) hd hs hy hno);have HKp:Hid (∀(v:World) (bo:Option Nat) (Af:Option Addr) (cf:Nat),B≤v.heap.size→dca.Dc v B b.q b.h (d.N.set i ⟨c.g,bo,c.r,getL c.L k⟩) d.x (d.y+1)→dca.Sp v 0 Af P.length P→Calls prog 52 #[.pointer (some ⟨b.q,0,none⟩),.string dir,.string s,.agg #[.int .i64 ep,.bool th,.int .i64 kd,.int .i64 lv,.int .i64 nd,.slice Af P.length cf,.string tg]] v fun e w'=>∃u bo' A2 c2,e= .returned (.bool u)∧dca.Sp w' 0 A2 P.length P∧dca.Dc w' B b.q b.h (d.N.set i ⟨c.g,bo',c.r,seeL c.L c.r k ⟨ep,th,kd,lv,nd,A2,P.length,c2,tg⟩⟩) d.x (d.y+1)∧Kept dca.DS B v w'):=hid fun v bo Af cf hBv hdc hsp=>Jp5 th ep kd lv nd Af cf P tg hdc hBv hk h1 h2 hki hi hok hlen hd hs hP hsp;have HS1:=hid hS1;have HX:=hid hx1;have HZ:=hid hz;have HB1:=hid hb1;have HW1:=hid hW1;have HG:=hid hg;have HSe:=hid hse;have HBw:Hid (B≤w.heap.size):=hid hB;clear h hB hk h1 h2 hki hi hlen hd hs hok hy hno hP hW1 hg hx1 hz hb1 hs1 hS1 hse;go_enter func20,ntmps20
 go_upto_region 1 with fail
 rw [←HW1.out,←HG.out];go_wp2_with fail
 refine HC.out.mono ?_;rintro e w2 ⟨rfl,⟨bo,hd2⟩,hk2⟩;obtain⟨b1,hB1⟩:=words.nm (w2.heap.size);obtain⟨W3,hW3⟩:=words.nm (w2.alloc (.cells #[.int .i64 0,.bool false,.int .i64 0,.int .i64 0,.int .i64 0,.slice none 0 0,.string ⟨#[]⟩] 75));have hb3:Below w2.heap.size w2 W3:=words.b1 hW3;have hx3:W3.heap[w.heap.size]?=some (.cells #[.slice A n ca,.int .i64 ad] 29 (0,0)):=by
  have:=hk2.blk HX.out (by unfold dca.DS;decide);exact (hb3.block _ (lt_of_some this)).trans this
 have x0:=Jaa hx3 0;have x1:=Jaa hx3 1;have HK3:=hid (((Kept.of_below HB1.out dca.DS B).trans hk2).trans (Kept.of_below hb3 dca.DS B));have HL:=hid (Je5 A n ca ad Ap np cp s th ep kd lv nd P tg W3 (HSe.out _ HK3.out));have HS3:=hid ((HS1.out.named hk2 hd2).later hb3);have HZ3:Hid (W3.heap[g1]?=some (.cells #[.int .i64 0,.bool false,.int .i64 0,.int .i64 0,.int .i64 0,.slice none 0 0,.string ⟨#[]⟩] 75 (0,0))):=hid (by
   have:=hk2.blk HZ.out (by unfold dca.DS;decide);exact (hb3.block _ (lt_of_some this)).trans this)
 have HW3:=hid hW3;have HBe:=hid hB1;clear hd2 hk2 hb3 hx3 hW3 hB1 c6;go_upto_region 2 with fail
 rw [←HBe.out,←HW3.out];go_wp2_with fail
 refine HL.out.mono ?_;rintro e w4 ⟨Af,cf,rfl,hsp,hb4⟩;obtain⟨b2,hB2⟩:=words.nm (w4.heap.size);obtain⟨W5,hW5⟩:=words.nm (w4.alloc (.cells #[.int .i64 ep,.bool th,.int .i64 kd,.int .i64 lv,.int .i64 nd,.slice Af P.length cf,.string tg] 75));have hb5:Below W3.heap.size W3 W5:=by rw [hW5];exact hb4.trans ((Below.refl _ _).alloc hb4.size _)
 have hk5:W5.heap[b2]?=some (.cells #[.int .i64 ep,.bool th,.int .i64 kd,.int .i64 lv,.int .i64 nd,.slice Af P.length cf,.string tg] 75 (0,0)):=by rw [hW5,hB2];exact heap_alloc_new w4 _
 have HD:Hid (Below W5.heap.size W5 W5.drew):=hid (Below.refl _ _).drew;have HSp5:Hid (dca.Sp W5.drew 0 Af P.length P):=hid ((hsp.later (words.b1 hW5)).later HD.out);have HS5:=hid ((HS3.out.later hb5).later HD.out);have HK5:=hid hk5;have HB5:=hid hb5;have HW5:=hid hW5;have HBe2:=hid hB2;have HCE:Hid (∀w',Below W5.heap.size W5 w'→w'.cell? ⟨b.v,6,none⟩=some (.pointer (some ⟨b.q,0,none⟩))∧w'.cell? ⟨b2,0,none⟩=some (.int .i64 ep)∧w'.cell? ⟨b2,1,none⟩=some (.bool th)∧w'.cell? ⟨b2,2,none⟩=some (.int .i64 kd)∧w'.cell? ⟨b2,3,none⟩=some (.int .i64 lv)∧w'.cell? ⟨b2,4,none⟩=some (.int .i64 nd)∧w'.cell? ⟨b2,5,none⟩=some (.slice Af P.length cf)∧w'.cell? ⟨b2,6,none⟩=some (.string tg)):=hid fun w' hb=>by
  have e1:=Jaa ((HS3.out.later HB5.out).later hb).blk 6;have e2:=(hb.block _ (lt_of_some HK5.out)).trans HK5.out;exact⟨e1,Jaa e2 0,Jaa e2 1,Jaa e2 2,Jaa e2 3,Jaa e2 4,Jaa e2 5,Jaa e2 6⟩
 clear hsp hb4 hb5 hk5 hW5 hB2 x0 x1;go_upto_region 5 with fail
 rw [←HBe2.out,←HW5.out];refine held.wpT_start (S:=fun w'=>Below W5.heap.size W5 w') (T:=fun k=>k==7) (by kernel_rfl) ?_;refine held.wpT_take (i:=0) (oi:=⟨some 34,_,_,_,_,_⟩) (v:=?_) rfl (by kernel_rfl) (by kernel_rfl) (by kernel_rfl) (fun _ _ _ h=>h) (Or.inl ⟨by kernel_rfl,?_⟩) ?_
 rotate_left 1
 ·intro _ _;go_simp;(try with_reducible rfl)
 try simp only [words.pt]
 refine held.wpT_take (i:=1) (oi:=⟨some 35,_,_,_,_,_⟩) (v:=?_) rfl (by kernel_rfl) (by kernel_rfl) (by kernel_rfl) (fun _ _ _ h=>h) (Or.inl ⟨by kernel_rfl,?_⟩) ?_
 rotate_left 1
 ·intro _ _;go_simp;(try with_reducible rfl)
 try simp only [words.pt]
 refine held.wpT_take (i:=2) (oi:=⟨some 36,_,_,_,_,_⟩) (v:=?_) rfl (by kernel_rfl) (by kernel_rfl) (by kernel_rfl) (fun _ _ _ h=>h) (Or.inl ⟨by kernel_rfl,?_⟩) ?_
 rotate_left 1
 ·intro _ _;go_simp;(try with_reducible rfl)
 try simp only [words.pt]
 refine held.wpT_load (i:=3) (oi:=⟨some 37,_,_,_,_,_⟩) (v:=?_) rfl (by kernel_rfl) (by kernel_rfl) (by kernel_rfl) (fun _ _ _ h=>h) (by kernel_rfl) (Or.inl ⟨by kernel_rfl,?_⟩) (HD.out) ?_
 rotate_left 1
 focus (intro w' hSw;obtain⟨q0,q1,q2,q3,q4,q5,q6,q7⟩:=HCE.out w' hSw;clear hSw;go_simp;(try with_reducible rfl))
 try simp only [words.pt]
 refine held.wpT_take (i:=4) (oi:=⟨some 38,_,_,_,_,_⟩) (v:=?_) rfl (by kernel_rfl) (by kernel_rfl) (by kernel_rfl) (fun _ _ _ h=>h) (Or.inl ⟨by kernel_rfl,?_⟩) ?_
 rotate_left 1
 ·intro _ _;go_simp;(try with_reducible rfl)
 try simp only [words.pt]
 refine held.wpT_take (i:=5) (oi:=⟨some 39,_,_,_,_,_⟩) (v:=?_) rfl (by kernel_rfl) (by kernel_rfl) (by kernel_rfl) (fun _ _ _ h=>h) (Or.inl ⟨by kernel_rfl,?_⟩) ?_
 rotate_left 1
 ·intro _ _;go_simp;(try with_reducible rfl)
 try simp only [words.pt]
 refine held.wpT_load (i:=6) (oi:=⟨some 40,_,_,_,_,_⟩) (v:=?_) rfl (by kernel_rfl) (by kernel_rfl) (by kernel_rfl) (fun _ _ _ h=>h) (by kernel_rfl) (Or.inl ⟨by kernel_rfl,?_⟩) (HD.out) ?_
 rotate_left 1
 focus (intro w' hSw;obtain⟨q0,q1,q2,q3,q4,q5,q6,q7⟩:=HCE.out w' hSw;clear hSw;go_simp;(try with_reducible rfl))
 try simp only [words.pt]
 refine held.wpT_one (i:=7) (by kernel_rfl) rfl (fun Kc hK=>?_);go_simp
 go_at_call 52
 refine (HKp.out _ _ _ _ (Nat.le_trans HBw.out (Nat.le_trans HK3.out.size (Nat.le_trans HB5.out.size HD.out.size))) HS5.out.dc HSp5.out).mono ?_;rintro en w6 ⟨u,bo2,A2,c2,rfl,hsp6,hd6,hk6⟩;refine hK.out _ _ (fun h=>absurd h (by decide)) ?_;clear hK;try simp only [words.pt]
 refine held.wpT_done (by kernel_rfl) ?_ _;have hk36:=((Kept.of_below HB5.out dca.DS B).trans (Kept.of_below HD.out dca.DS B)).trans hk6;have hg1:=hk36.blk HZ3.out (by unfold dca.DS;decide);have he6:=hk6.blk ((HD.out.block _ (lt_of_some HK5.out)).trans HK5.out) (by unfold dca.DS;decide);obtain⟨W9,hW9⟩:=words.nm (((((((w6.setCell ⟨g1,0,none⟩ (.int .i64 ep)).setCell ⟨g1,1,none⟩ (.bool th)).setCell ⟨g1,2,none⟩ (.int .i64 kd)).setCell ⟨g1,3,none⟩ (.int .i64 lv)).setCell ⟨g1,4,none⟩ (.int .i64 nd)).setCell ⟨g1,5,none⟩ (.slice Af P.length cf)).setCell ⟨g1,6,none⟩ (.string tg));have h9:W9=setsV w6 g1 0 [.int .i64 ep,.bool th,.int .i64 kd,.int .i64 lv,.int .i64 nd,.slice Af P.length cf,.string tg]:=hW9;have hk9:W9.heap[g1]?=some (.cells #[.int .i64 ep,.bool th,.int .i64 kd,.int .i64 lv,.int .i64 nd,.slice Af P.length cf,.string tg] 75 (0,0)):=by rw [h9];exact Jak hg1 rfl
 have ht9:Tn (fun k=>k=g1) w6 W9:=by rw [h9];exact Jan (S:=fun k=>k=g1) _ (.inr rfl) _ _ _ (Tn.refl _ _)
 have hkt9:Kept (fun t=>t=75) 0 w6 W9:=ht9.kept (fun k hk=>by subst hk;exact⟨Nat.zero_le _,_,_,_,hg1,rfl⟩);have hS9:=(HS5.out.named hk6 hd6).frm (Frm.of_kept hkt9) (by decide);have hK9:=Je7 (HK3.out.trans hk36) ht9 (by rw [HG.out];omega);have hsp9:=(HSp5.out.kept hk6 (by unfold dca.DS;decide)).kept hkt9 (by decide);have HE:Hid (MissV w B b d i c k th ep kd lv nd P tg (.returned (.agg #[.int .i64 ep,.bool th,.int .i64 kd,.int .i64 lv,.int .i64 nd,.slice Af P.length cf,.string tg])) W9):=hid ⟨Af,cf,bo2,A2,c2,rfl,hsp9,hsp6.kept hkt9 (by decide),hS9,hK9⟩;have e0:=Jaa he6 0;have e1:=Jaa he6 1;have e2:=Jaa he6 2;have e3:=Jaa he6 3;have e4:=Jaa he6 4;have e5:=Jaa he6 5;have e6:=Jaa he6 6;have y0:=Jaa hg1 0;have y1:=Jaa hg1 1;have y2:=Jaa hg1 2;have y3:=Jaa hg1 3;have y4:=Jaa hg1 4;have y5:=Jaa hg1 5;have y6:=Jaa hg1 6;have z0:=Jab hg1 0;have z1:=Jab hg1 1;have z2:=Jab hg1 2;have z3:=Jab hg1 3;have z4:=Jab hg1 4;have z5:=Jab hg1 5;have z6:=Jab hg1 6;have p0:=Jaa hk9 0;have p1:=Jaa hk9 1;have p2:=Jaa hk9 2;have p3:=Jaa hk9 3;have p4:=Jaa hk9 4;have p5:=Jaa hk9 5;have p6:=Jaa hk9 6;have HW9:=hid hW9;clear hsp6 hd6 hk6 hk36 hg1 he6 h9 hk9 ht9 hkt9 hS9 hK9 hsp9 hW9;go_wp2_with fail
 try rw [←HW9.out]
 exact bodyPost_ret (v:= .agg #[.int .i64 ep,.bool th,.int .i64 kd,.int .i64 lv,.int .i64 nd,.slice Af P.length cf,.string tg]) (by simp [results,results20,go_sem,p0,p1,p2,p3,p4,p5,p6]) rfl HE.out
end

def Lists (w:World) (B:Nat) (A:Option Addr) (n c:Nat) (ad:Int) (p:ByteArray) (l:List (ByteArray×Int)):Prop:=
 ∀w',Kept lca.DS B w w'→Calls prog 39 #[.agg #[.slice A n c,.int .i64 ad],.string p] w' fun e w2=>∃p2 k Al cl,e= .returned (.tuple #[.string p2,.slice Al l.length cl,.int .i64 k])∧lca.Enr w2 w'.heap.size (.slice Al l.length cl) l∧Below w'.heap.size w' w2
section
variable {B:Nat} {b:Bk} {d:Sd} {w:World} {p:ByteArray} {l:List (ByteArray×Int)}
theorem Sv.listed {w':World} {Ls:List shl.Cc} {z:Int} (h:Sv w B b d) (hk:Kept lca.DS B w w') (hd:lca.Lc w' B b.q2 b.h2 Ls z):Sv w' B b {d with Ls:=Ls,z:=z}:=
 have m:=Frm.of_kept hk
 ⟨h.ge,m.blk h.blk (by unfold lca.DS;decide),m.spc h.st (by unfold lca.DS;decide) (by unfold lca.DS;decide) (fun h=>h),m.dca h.dc (by unfold lca.DS;decide) (by unfold lca.DS;decide) (by unfold lca.DS;decide) (by unfold lca.DS;decide) (by unfold lca.DS;decide),hd,m.mapL h.lk (fun h=>h),h.mp,h.ne⟩
theorem Jm0 (g0 g1:Nat) (w':World) (hk:Kept lca.DS B w w') (h0:w.heap[g0]?=some (.cells #[.pointer (some ⟨b.v,0,none⟩)] 43 (0,0))) (h1:w.heap[g1]?=some (.cells #[.string p] 9 (0,0))) (h2:w.heap[b.v]?=some (.cells #[.pointer (some ⟨b.s,0,none⟩),d.g1,.int .i64 d.g2,.bool d.g3,d.g4,.int .i64 d.g5,.pointer (some ⟨b.q,0,none⟩),.pointer (some ⟨b.q2,0,none⟩),.map (some b.mp)] 103 (0,0))) (h3:spc.Sp B b.s b.t b.m d.A d.c d.L d.ad d.ep d.r d.n d.C w)
  (hL:Lists w B d.A d.L.length d.c d.ad p l):
  Calls prog 38 #[.pointer (some ⟨g0,0,none⟩),.pointer (some ⟨g1,0,none⟩)] w' fun e w2=>(∃A c,e= .returned (.slice A l.length c)∧lca.Enr w2 w'.heap.size (.slice A l.length c) l)∧lca.Mpd none w' w2∧True:=by
 have e0:=hk.blk h0 (by unfold lca.DS;decide);have e1:=hk.blk h1 (by unfold lca.DS;decide);have e2:=hk.blk h2 (by unfold lca.DS;decide);have e3:=hk.blk h3.blk (by unfold lca.DS;decide);have HCE:Hid (∀v,Below w'.heap.size w' v→v.cell? ⟨g0,0,none⟩=some (.pointer (some ⟨b.v,0,none⟩))∧v.cell? ⟨g1,0,none⟩=some (.string p)∧v.cell? ⟨b.v,0,none⟩=some (.pointer (some ⟨b.s,0,none⟩))∧v.cell? ⟨b.s,0,none⟩=some (.slice d.A d.L.length d.c)∧v.cell? ⟨b.s,1,none⟩=some (.int .i64 d.ad)):=hid fun v hb=>
  ⟨Jaa ((hb.block _ (lt_of_some e0)).trans e0) 0,Jaa ((hb.block _ (lt_of_some e1)).trans e1) 0,Jaa ((hb.block _ (lt_of_some e2)).trans e2) 0,Jaa ((hb.block _ (lt_of_some e3)).trans e3) 0,Jaa ((hb.block _ (lt_of_some e3)).trans e3) 1⟩
 have HD:Hid (Below w'.heap.size w' w'.drew):=hid (Below.refl _ _).drew;have HL:=hid (hL w'.drew (hk.trans (Kept.of_below HD.out lca.DS B)));clear hk h0 h1 h2 h3 hL e0 e1 e2 e3;go_enter func38,ntmps38
 go_upto_region 1 with fail
 refine held.wpT_start (S:=fun v=>Below w'.heap.size w' v) (T:=fun _=>false) (by kernel_rfl) ?_;refine held.wpT_load (i:=0) (oi:=⟨some 7,_,_,_,_,_⟩) (v:=?_) rfl (by kernel_rfl) (by kernel_rfl) (by kernel_rfl) (fun _ _ _ h=>h) (by kernel_rfl) (Or.inl ⟨by kernel_rfl,?_⟩) (HD.out) ?_
 rotate_left 1
 focus (intro w' hSw;obtain⟨q0,q1,q2,q3,q4⟩:=HCE.out w' hSw;clear hSw;go_simp;(try with_reducible rfl))
 try simp only [words.pt]
 refine held.wpT_take (i:=1) (oi:=⟨some 8,_,_,_,_,_⟩) (v:=?_) rfl (by kernel_rfl) (by kernel_rfl) (by kernel_rfl) (fun _ _ _ h=>h) (Or.inl ⟨by kernel_rfl,?_⟩) ?_
 rotate_left 1
 ·intro _ _;go_simp;(try with_reducible rfl)
 try simp only [words.pt]
 refine held.wpT_take (i:=2) (oi:=⟨some 9,_,_,_,_,_⟩) (v:=?_) rfl (by kernel_rfl) (by kernel_rfl) (by kernel_rfl) (fun _ _ _ h=>h) (Or.inl ⟨by kernel_rfl,?_⟩) ?_
 rotate_left 1
 ·intro _ _;go_simp;(try with_reducible rfl)
 try simp only [words.pt]
 refine held.wpT_load (i:=3) (oi:=⟨some 10,_,_,_,_,_⟩) (v:=?_) rfl (by kernel_rfl) (by kernel_rfl) (by kernel_rfl) (fun _ _ _ h=>h) (by kernel_rfl) (Or.inl ⟨by kernel_rfl,?_⟩) (HD.out) ?_
 rotate_left 1
 focus (intro w' hSw;obtain⟨q0,q1,q2,q3,q4⟩:=HCE.out w' hSw;clear hSw;go_simp;(try with_reducible rfl))
 try simp only [words.pt]
 refine held.wpT_take (i:=4) (oi:=⟨some 11,_,_,_,_,_⟩) (v:=?_) rfl (by kernel_rfl) (by kernel_rfl) (by kernel_rfl) (fun _ _ _ h=>h) (Or.inl ⟨by kernel_rfl,?_⟩) ?_
 rotate_left 1
 ·intro _ _;go_simp;(try with_reducible rfl)
 try simp only [words.pt]
 refine held.wpT_take (i:=5) (oi:=⟨some 12,_,_,_,_,_⟩) (v:=?_) rfl (by kernel_rfl) (by kernel_rfl) (by kernel_rfl) (fun _ _ _ h=>h) (Or.inl ⟨by kernel_rfl,?_⟩) ?_
 rotate_left 1
 ·intro _ _;go_simp;(try with_reducible rfl)
 try simp only [words.pt]
 refine held.wpT_load (i:=6) (oi:=⟨some 13,_,_,_,_,_⟩) (v:=?_) rfl (by kernel_rfl) (by kernel_rfl) (by kernel_rfl) (fun _ _ _ h=>h) (by kernel_rfl) (Or.inl ⟨by kernel_rfl,?_⟩) (HD.out) ?_
 rotate_left 1
 focus (intro w' hSw;obtain⟨q0,q1,q2,q3,q4⟩:=HCE.out w' hSw;clear hSw;go_simp;(try with_reducible rfl))
 try simp only [words.pt]
 refine held.wpT_load (i:=7) (oi:=⟨some 14,_,_,_,_,_⟩) (v:=?_) rfl (by kernel_rfl) (by kernel_rfl) (by kernel_rfl) (fun _ _ _ h=>h) (by kernel_rfl) (Or.inl ⟨by kernel_rfl,?_⟩) (HD.out) ?_
 rotate_left 1
 focus (intro w' hSw;obtain⟨q0,q1,q2,q3,q4⟩:=HCE.out w' hSw;clear hSw;go_simp;(try with_reducible rfl))
 try simp only [words.pt]
 refine held.wpT_one (i:=8) (by kernel_rfl) rfl (fun Kc hK=>?_);go_simp
 go_at_call 39
 refine (HL.out).mono ?_;rintro en v1 ⟨p2,k,Al,cl,rfl,he,hb⟩;refine hK.out _ _ (fun _ _=>(HD.out.trans (hb.mono HD.out.size))) ?_;clear hK;try simp only [words.pt]
 refine held.wpT_take (i:=9) (oi:=⟨some 6,_,_,_,_,_⟩) (v:=?_) rfl (by kernel_rfl) (by kernel_rfl) (by kernel_rfl) (fun _ _ _ h=>h) (Or.inl ⟨by kernel_rfl,?_⟩) ?_
 rotate_left 1
 ·intro _ _;go_simp;(try with_reducible rfl)
 try simp only [words.pt]
 refine held.wpT_take (i:=10) (oi:=⟨some 16,_,_,_,_,_⟩) (v:=?_) rfl (by kernel_rfl) (by kernel_rfl) (by kernel_rfl) (fun _ _ _ h=>h) (Or.inl ⟨by kernel_rfl,?_⟩) ?_
 rotate_left 1
 ·intro _ _;go_simp;(try with_reducible rfl)
 try simp only [words.pt]
 refine held.wpT_take (i:=11) (oi:=⟨some 17,_,_,_,_,_⟩) (v:=?_) rfl (by kernel_rfl) (by kernel_rfl) (by kernel_rfl) (fun _ _ _ h=>h) (Or.inl ⟨by kernel_rfl,?_⟩) ?_
 rotate_left 1
 ·intro _ _;go_simp;(try with_reducible rfl)
 try simp only [words.pt]
 refine held.wpT_take (i:=12) (oi:=⟨some 18,_,_,_,_,_⟩) (v:=?_) rfl (by kernel_rfl) (by kernel_rfl) (by kernel_rfl) (fun _ _ _ h=>h) (Or.inl ⟨by kernel_rfl,?_⟩) ?_
 rotate_left 1
 ·intro _ _;go_simp;(try with_reducible rfl)
 try simp only [words.pt]
 refine held.wpT_take (i:=13) (oi:=⟨some 3,_,_,_,_,_⟩) (v:=?_) rfl (by kernel_rfl) (by kernel_rfl) (by kernel_rfl) (fun _ _ _ h=>h) (Or.inl ⟨by kernel_rfl,?_⟩) ?_
 rotate_left 1
 ·intro _ _;go_simp;(try with_reducible rfl)
 try simp only [words.pt]
 refine held.wpT_take (i:=14) (oi:=⟨some 4,_,_,_,_,_⟩) (v:=?_) rfl (by kernel_rfl) (by kernel_rfl) (by kernel_rfl) (fun _ _ _ h=>h) (Or.inl ⟨by kernel_rfl,?_⟩) ?_
 rotate_left 1
 ·intro _ _;go_simp;(try with_reducible rfl)
 try simp only [words.pt]
 refine held.wpT_take (i:=15) (oi:=⟨some 5,_,_,_,_,_⟩) (v:=?_) rfl (by kernel_rfl) (by kernel_rfl) (by kernel_rfl) (fun _ _ _ h=>h) (Or.inl ⟨by kernel_rfl,?_⟩) ?_
 rotate_left 1
 ·intro _ _;go_simp;(try with_reducible rfl)
 try simp only [words.pt]
 refine held.wpT_done (by kernel_rfl) ?_ _;have HE:=hid (And.intro (he.mono HD.out.size) (HD.out.trans (hb.mono HD.out.size)));clear he hb;go_wp2_with fail
 go_ret
 exact⟨⟨Al,cl,rfl,HE.out.1⟩,lca.Mpd.of_below HE.out.2,trivial⟩
def ListV (w:World) (B:Nat) (b:Bk) (d:Sd) (l:List (ByteArray×Int)) (Q:World→List shl.Cc→Prop) (z:Int) (e:Ending) (w':World):Prop:=
 ∃Al cl Ls,e= .returned (.slice Al l.length cl)∧lca.Enr w' w.heap.size (.slice Al l.length cl) l∧Q w' Ls∧Sv w' B b {d with Ls:=Ls,z:=z}∧Kept lca.DS B w w'
theorem Jpx {w w':World} {B:Nat} (m:lca.Kpm B none w w'):Kept lca.DS B w w':=⟨m.os,m.tape,m.output,m.size,fun k hk hc=>m.block k hk (fun e=>by cases e) hc⟩
structure LAt (d:Sd) (i:Nat) (c:shl.Cc) (p:ByteArray):Prop where
 pos:0<d.Ls.length
 few:d.Ls.length≤256
 of:i=sha.ofF p d.Ls.length
 at_:d.Ls[i]?=some c
 len:c.L.length≤900
 key:p.size≤1000000
theorem Jlb {i:Nat} {c:shl.Cc} (h:Sv w B b d) (hB:B≤w.heap.size) (hA:LAt d i c p) (hz:0≤d.z∧d.z≤1000000) (hno:lrl.gotB c.L p=false) (hl:l.length≤1000000) (hL:Lists w B d.A d.L.length d.c d.ad p l):
  Calls prog 11 #[.pointer (some ⟨b.v,0,none⟩),.string p] w (ListV w B b d l (fun v Ls=>∃bo A2 c2,Ls=d.Ls.set i ⟨c.g,bo,c.r,putL c.L c.r p ⟨d.ep,A2,l.length,c2⟩⟩∧lca.Enr v w.heap.size (.slice A2 l.length c2) l) (d.z+1)):=by
 obtain⟨W1,g1,hW1,hg,hx,hy,hb1,hs1⟩:=boxes2 w #[.pointer (some ⟨b.v,0,none⟩)] 43 #[.string p] 9;have HD:Hid (Below W1.heap.size W1 W1.drew):=hid (Below.refl _ _).drew;have HS1:=hid ((h.later hb1).later HD.out);have HCE:Hid (∀v,Kept lca.DS B W1 v→v.cell? ⟨w.heap.size,0,none⟩=some (.pointer (some ⟨b.v,0,none⟩))∧v.cell? ⟨g1,0,none⟩=some (.string p)∧v.cell? ⟨b.v,0,none⟩=some (.pointer (some ⟨b.s,0,none⟩))∧v.cell? ⟨b.v,7,none⟩=some (.pointer (some ⟨b.q2,0,none⟩))∧v.cell? ⟨b.s,2,none⟩=some (.int .i64 d.ep)):=hid fun v hb=>by
  have h1:=h.later hb1;have e1:=hb.blk h1.blk (by unfold lca.DS;decide);exact⟨Jaa (hb.blk hx (by unfold lca.DS;decide)) 0,Jaa (hb.blk hy (by unfold lca.DS;decide)) 0,Jaa e1 0,Jaa e1 7,Jaa (hb.blk h1.st.blk (by unfold lca.DS;decide)) 2⟩
 have HT:Hid (Calls prog 37 #[.pointer (some ⟨b.q2,0,none⟩),.int .i64 d.ep,.string p,(.func (.func 38) #[] #[.pointer (some ⟨w.heap.size,0,none⟩),.pointer (some ⟨g1,0,none⟩)])] W1.drew (fun e w'=>∃Al cl Ls,e= .returned (.slice Al l.length cl)∧lca.Enr w' W1.drew.heap.size (.slice Al l.length cl) l∧(fun v Ls=>∃bo A2 c2,Ls=d.Ls.set i ⟨c.g,bo,c.r,putL c.L c.r p ⟨d.ep,A2,l.length,c2⟩⟩∧lca.Enr v w.heap.size (.slice A2 l.length c2) l) w' Ls∧Sv w' B b {d with Ls:=Ls,z:=(d.z+1)}∧Kept lca.DS B W1.drew w')):=hid (by
   refine (lca.take_new B b.q2 b.h2 i c d.Ls d.z d.ep p W1.drew 38 #[.pointer (some ⟨w.heap.size,0,none⟩),.pointer (some ⟨g1,0,none⟩)] none l (fun _=>True)
     ⟨HS1.out.lc,hA.pos,hA.few,hA.of,hA.at_,hA.len,hA.key,hz,Nat.le_trans hB (Nat.le_trans hb1.size HD.out.size),fun _ _=>by kernel_rfl,fun _ e=>(by cases e),fun w2 hk=>Jm0 _ _ w2 hk ((HD.out.block _ (lt_of_some hx)).trans hx) ((HD.out.block _ (lt_of_some hy)).trans hy) HS1.out.blk HS1.out.st (fun w3 h3=>hL w3 ((Kept.of_below (hb1.trans (HD.out.mono hb1.size)) lca.DS B).trans h3)),hl,.inl hno⟩ (.inl hno)).mono ?_
   rintro e w' ⟨Al,cl,rfl,ht,A2,c2,he2,_,bo,hd⟩;have hk:=Jpx ht.2.1;exact⟨Al,cl,_,rfl,ht.1,⟨bo,A2,c2,rfl,he2.mono (Nat.le_trans hb1.size HD.out.size)⟩,HS1.out.listed hk hd,hk⟩)
 have HB1:=hid hb1;have HW1:=hid hW1;have HG:=hid hg;have hmf:∀(fn:Fn) (first cap:Array Value) (w:World),(Instr.makeFunc fn first cap).run prog w= .ok (.func fn first cap) w:=fun _ _ _ _=>rfl;clear h hA hno hl hW1 hg hx hy hb1 hs1 hB hz hL;go_enter func11,ntmps11
 go_upto_region 1 with fail
 rw [←HW1.out,←HG.out];refine held.wpT_start (S:=fun v=>Kept lca.DS B W1 v) (T:=fun _=>false) (by kernel_rfl) ?_;refine held.wpT_load (i:=0) (oi:=⟨some 5,_,_,_,_,_⟩) (v:=?_) rfl (by kernel_rfl) (by kernel_rfl) (by kernel_rfl) (fun _ _ _ h=>h) (by kernel_rfl) (Or.inl ⟨by kernel_rfl,?_⟩) ((Kept.of_below HD.out lca.DS B)) ?_
 rotate_left 1
 focus (intro w' hSw;obtain⟨q0,q1,q2,q3,q4⟩:=HCE.out w' hSw;clear hSw;go_simp;(try with_reducible rfl))
 try simp only [words.pt]
 refine held.wpT_take (i:=1) (oi:=⟨some 6,_,_,_,_,_⟩) (v:=?_) rfl (by kernel_rfl) (by kernel_rfl) (by kernel_rfl) (fun _ _ _ h=>h) (Or.inl ⟨by kernel_rfl,?_⟩) ?_
 rotate_left 1
 ·intro _ _;go_simp;(try with_reducible rfl)
 try simp only [words.pt]
 refine held.wpT_take (i:=2) (oi:=⟨some 7,_,_,_,_,_⟩) (v:=?_) rfl (by kernel_rfl) (by kernel_rfl) (by kernel_rfl) (fun _ _ _ h=>h) (Or.inl ⟨by kernel_rfl,?_⟩) ?_
 rotate_left 1
 ·intro _ _;go_simp;(try with_reducible rfl)
 try simp only [words.pt]
 refine held.wpT_load (i:=3) (oi:=⟨some 8,_,_,_,_,_⟩) (v:=?_) rfl (by kernel_rfl) (by kernel_rfl) (by kernel_rfl) (fun _ _ _ h=>h) (by kernel_rfl) (Or.inl ⟨by kernel_rfl,?_⟩) ((Kept.of_below HD.out lca.DS B)) ?_
 rotate_left 1
 focus (intro w' hSw;obtain⟨q0,q1,q2,q3,q4⟩:=HCE.out w' hSw;clear hSw;go_simp;(try with_reducible rfl))
 try simp only [words.pt]
 refine held.wpT_load (i:=4) (oi:=⟨some 9,_,_,_,_,_⟩) (v:=?_) rfl (by kernel_rfl) (by kernel_rfl) (by kernel_rfl) (fun _ _ _ h=>h) (by kernel_rfl) (Or.inl ⟨by kernel_rfl,?_⟩) ((Kept.of_below HD.out lca.DS B)) ?_
 rotate_left 1
 focus (intro w' hSw;obtain⟨q0,q1,q2,q3,q4⟩:=HCE.out w' hSw;clear hSw;go_simp;(try with_reducible rfl))
 try simp only [words.pt]
 refine held.wpT_take (i:=5) (oi:=⟨some 10,_,_,_,_,_⟩) (v:=?_) rfl (by kernel_rfl) (by kernel_rfl) (by kernel_rfl) (fun _ _ _ h=>h) (Or.inl ⟨by kernel_rfl,?_⟩) ?_
 rotate_left 1
 ·intro _ _;go_simp;(try with_reducible rfl)
 try simp only [words.pt]
 refine held.wpT_take (i:=6) (oi:=⟨some 11,_,_,_,_,_⟩) (v:=?_) rfl (by kernel_rfl) (by kernel_rfl) (by kernel_rfl) (fun _ _ _ h=>h) (Or.inl ⟨by kernel_rfl,?_⟩) ?_
 rotate_left 1
 ·intro _ _;go_simp;(try with_reducible rfl)
 try simp only [words.pt]
 refine held.wpT_load (i:=7) (oi:=⟨some 12,_,_,_,_,_⟩) (v:=?_) rfl (by kernel_rfl) (by kernel_rfl) (by kernel_rfl) (fun _ _ _ h=>h) (by kernel_rfl) (Or.inl ⟨by kernel_rfl,?_⟩) ((Kept.of_below HD.out lca.DS B)) ?_
 rotate_left 1
 focus (intro w' hSw;obtain⟨q0,q1,q2,q3,q4⟩:=HCE.out w' hSw;clear hSw;go_simp;(try with_reducible rfl))
 try simp only [words.pt]
 refine held.wpT_take (i:=8) (oi:=⟨some 13,_,_,_,_,_⟩) (v:=?_) rfl (by kernel_rfl) (by kernel_rfl) (by kernel_rfl) (fun _ _ _ h=>h) (Or.inl ⟨by kernel_rfl,?_⟩) ?_
 rotate_left 1
 ·intro _ _;go_simp;(try with_reducible rfl)
 try simp only [words.pt]
 refine held.wpT_take (i:=9) (oi:=⟨some 14,_,_,_,_,_⟩) (v:=?_) rfl (by kernel_rfl) (by kernel_rfl) (by kernel_rfl) (fun _ _ _ h=>h) (Or.inl ⟨by kernel_rfl,?_⟩) ?_
 rotate_left 1
 ·intro _ _;go_simp;(try with_reducible rfl)
 try simp only [words.pt]
 refine held.wpT_load (i:=10) (oi:=⟨some 15,_,_,_,_,_⟩) (v:=?_) rfl (by kernel_rfl) (by kernel_rfl) (by kernel_rfl) (fun _ _ _ h=>h) (by kernel_rfl) (Or.inl ⟨by kernel_rfl,?_⟩) ((Kept.of_below HD.out lca.DS B)) ?_
 rotate_left 1
 focus (intro w' hSw;obtain⟨q0,q1,q2,q3,q4⟩:=HCE.out w' hSw;clear hSw;go_simp;(try with_reducible rfl))
 try simp only [words.pt]
 refine held.wpT_load (i:=11) (oi:=⟨some 16,_,_,_,_,_⟩) (v:=?_) rfl (by kernel_rfl) (by kernel_rfl) (by kernel_rfl) (fun _ _ _ h=>h) (by kernel_rfl) (Or.inl ⟨by kernel_rfl,?_⟩) ((Kept.of_below HD.out lca.DS B)) ?_
 rotate_left 1
 focus (intro w' hSw;obtain⟨q0,q1,q2,q3,q4⟩:=HCE.out w' hSw;clear hSw;go_simp;(try with_reducible rfl))
 try simp only [words.pt]
 refine held.wpT_one (i:=12) (by kernel_rfl) rfl (fun Kc hK=>?_);go_simp
 refine hK.out _ _ (fun _ h=>h) ?_;clear hK;try simp only [words.pt]
 refine held.wpT_one (i:=13) (by kernel_rfl) rfl (fun Kc hK=>?_);go_simp
 go_at_call 37
 refine (HT.out).mono ?_;rintro en v1 ⟨Al,cl,Ls,rfl,he,hq,hs,hk⟩;refine hK.out _ _ (fun _ _=>((Kept.of_below HD.out lca.DS B).trans hk)) ?_;clear hK;try simp only [words.pt]
 refine held.wpT_take (i:=14) (oi:=⟨some 4,_,_,_,_,_⟩) (v:=?_) rfl (by kernel_rfl) (by kernel_rfl) (by kernel_rfl) (fun _ _ _ h=>h) (Or.inl ⟨by kernel_rfl,?_⟩) ?_
 rotate_left 1
 ·intro _ _;go_simp;(try with_reducible rfl)
 try simp only [words.pt]
 refine held.wpT_done (by kernel_rfl) ?_ _;have hk9:=((Kept.of_below HB1.out lca.DS B).trans (Kept.of_below HD.out lca.DS B)).trans hk;have HE:Hid (ListV w B b d l (fun v Ls=>∃bo A2 c2,Ls=d.Ls.set i ⟨c.g,bo,c.r,putL c.L c.r p ⟨d.ep,A2,l.length,c2⟩⟩∧lca.Enr v w.heap.size (.slice A2 l.length c2) l) (d.z+1) (.returned (.slice Al l.length cl)) v1):=hid ⟨Al,cl,Ls,rfl,he.mono (Nat.le_trans HB1.out.size HD.out.size),hq,hs,hk9⟩;clear he hq hs hk hk9;go_wp2_with fail
 go_ret
 exact HE.out
theorem Jqz {i:Nat} {c:shl.Cc} (h:Sv w B b d) (hA:LAt d i c p) (lo:Nat) (hl:l.length≤1000000) (hno:lrl.gotB c.L p=true∧(lrl.gotI c.L p).ep=d.ep∧(lrl.gotI c.L p).n=l.length∧lca.Enr w lo (.slice (lrl.gotI c.L p).a l.length (lrl.gotI c.L p).c) l):
  Calls prog 11 #[.pointer (some ⟨b.v,0,none⟩),.string p] w (ListV w B b d l (fun _ Ls=>∃bo,Ls=d.Ls.set i ⟨c.g,bo,c.r,getL c.L p⟩) d.z):=by
 obtain⟨W1,g1,hW1,hg,hx,hy,hb1,hs1⟩:=boxes2 w #[.pointer (some ⟨b.v,0,none⟩)] 43 #[.string p] 9;have HD:Hid (Below W1.heap.size W1 W1.drew):=hid (Below.refl _ _).drew;have HS1:=hid ((h.later hb1).later HD.out);have HCE:Hid (∀v,Kept lca.DS B W1 v→v.cell? ⟨w.heap.size,0,none⟩=some (.pointer (some ⟨b.v,0,none⟩))∧v.cell? ⟨g1,0,none⟩=some (.string p)∧v.cell? ⟨b.v,0,none⟩=some (.pointer (some ⟨b.s,0,none⟩))∧v.cell? ⟨b.v,7,none⟩=some (.pointer (some ⟨b.q2,0,none⟩))∧v.cell? ⟨b.s,2,none⟩=some (.int .i64 d.ep)):=hid fun v hb=>by
  have h1:=h.later hb1;have e1:=hb.blk h1.blk (by unfold lca.DS;decide);exact⟨Jaa (hb.blk hx (by unfold lca.DS;decide)) 0,Jaa (hb.blk hy (by unfold lca.DS;decide)) 0,Jaa e1 0,Jaa e1 7,Jaa (hb.blk h1.st.blk (by unfold lca.DS;decide)) 2⟩
 have HT:Hid (Calls prog 37 #[.pointer (some ⟨b.q2,0,none⟩),.int .i64 d.ep,.string p,(.func (.func 38) #[] #[.pointer (some ⟨w.heap.size,0,none⟩),.pointer (some ⟨g1,0,none⟩)])] W1.drew (fun e w'=>∃Al cl Ls,e= .returned (.slice Al l.length cl)∧lca.Enr w' W1.drew.heap.size (.slice Al l.length cl) l∧(fun _ Ls=>∃bo,Ls=d.Ls.set i ⟨c.g,bo,c.r,getL c.L p⟩) w' Ls∧Sv w' B b {d with Ls:=Ls,z:=d.z}∧Kept lca.DS B W1.drew w')):=hid (by
   refine (lca.take_hit B b.q2 b.h2 i c d.Ls d.z d.ep p W1.drew HS1.out.lc hA.pos hA.few hA.of hA.at_ hA.len hA.key (.func (.func 38) #[] #[.pointer (some ⟨w.heap.size,0,none⟩),.pointer (some ⟨g1,0,none⟩)]) lo l hl ⟨hno.1,hno.2.1,hno.2.2.1,(hno.2.2.2.later hb1).later HD.out⟩).mono ?_;rintro e w' ⟨Al,cl,rfl,he,⟨bo,hd⟩,hk⟩;have hk:=lca.keptWider hk fun _=>lca.LS.ds;exact⟨Al,cl,_,rfl,he,⟨bo,rfl⟩,HS1.out.listed hk hd,hk⟩)
 have HB1:=hid hb1;have HW1:=hid hW1;have HG:=hid hg;have hmf:∀(fn:Fn) (first cap:Array Value) (w:World),(Instr.makeFunc fn first cap).run prog w= .ok (.func fn first cap) w:=fun _ _ _ _=>rfl;clear h hA hno hl hW1 hg hx hy hb1 hs1;go_enter func11,ntmps11
 go_upto_region 1 with fail
 rw [←HW1.out,←HG.out];refine held.wpT_start (S:=fun v=>Kept lca.DS B W1 v) (T:=fun _=>false) (by kernel_rfl) ?_;refine held.wpT_load (i:=0) (oi:=⟨some 5,_,_,_,_,_⟩) (v:=?_) rfl (by kernel_rfl) (by kernel_rfl) (by kernel_rfl) (fun _ _ _ h=>h) (by kernel_rfl) (Or.inl ⟨by kernel_rfl,?_⟩) ((Kept.of_below HD.out lca.DS B)) ?_
 rotate_left 1
 focus (intro w' hSw;obtain⟨q0,q1,q2,q3,q4⟩:=HCE.out w' hSw;clear hSw;go_simp;(try with_reducible rfl))
 try simp only [words.pt]
 refine held.wpT_take (i:=1) (oi:=⟨some 6,_,_,_,_,_⟩) (v:=?_) rfl (by kernel_rfl) (by kernel_rfl) (by kernel_rfl) (fun _ _ _ h=>h) (Or.inl ⟨by kernel_rfl,?_⟩) ?_
 rotate_left 1
 ·intro _ _;go_simp;(try with_reducible rfl)
 try simp only [words.pt]
 refine held.wpT_take (i:=2) (oi:=⟨some 7,_,_,_,_,_⟩) (v:=?_) rfl (by kernel_rfl) (by kernel_rfl) (by kernel_rfl) (fun _ _ _ h=>h) (Or.inl ⟨by kernel_rfl,?_⟩) ?_
 rotate_left 1
 ·intro _ _;go_simp;(try with_reducible rfl)
 try simp only [words.pt]
 refine held.wpT_load (i:=3) (oi:=⟨some 8,_,_,_,_,_⟩) (v:=?_) rfl (by kernel_rfl) (by kernel_rfl) (by kernel_rfl) (fun _ _ _ h=>h) (by kernel_rfl) (Or.inl ⟨by kernel_rfl,?_⟩) ((Kept.of_below HD.out lca.DS B)) ?_
 rotate_left 1
 focus (intro w' hSw;obtain⟨q0,q1,q2,q3,q4⟩:=HCE.out w' hSw;clear hSw;go_simp;(try with_reducible rfl))
 try simp only [words.pt]
 refine held.wpT_load (i:=4) (oi:=⟨some 9,_,_,_,_,_⟩) (v:=?_) rfl (by kernel_rfl) (by kernel_rfl) (by kernel_rfl) (fun _ _ _ h=>h) (by kernel_rfl) (Or.inl ⟨by kernel_rfl,?_⟩) ((Kept.of_below HD.out lca.DS B)) ?_
 rotate_left 1
 focus (intro w' hSw;obtain⟨q0,q1,q2,q3,q4⟩:=HCE.out w' hSw;clear hSw;go_simp;(try with_reducible rfl))
 try simp only [words.pt]
 refine held.wpT_take (i:=5) (oi:=⟨some 10,_,_,_,_,_⟩) (v:=?_) rfl (by kernel_rfl) (by kernel_rfl) (by kernel_rfl) (fun _ _ _ h=>h) (Or.inl ⟨by kernel_rfl,?_⟩) ?_
 rotate_left 1
 ·intro _ _;go_simp;(try with_reducible rfl)
 try simp only [words.pt]
 refine held.wpT_take (i:=6) (oi:=⟨some 11,_,_,_,_,_⟩) (v:=?_) rfl (by kernel_rfl) (by kernel_rfl) (by kernel_rfl) (fun _ _ _ h=>h) (Or.inl ⟨by kernel_rfl,?_⟩) ?_
 rotate_left 1
 ·intro _ _;go_simp;(try with_reducible rfl)
 try simp only [words.pt]
 refine held.wpT_load (i:=7) (oi:=⟨some 12,_,_,_,_,_⟩) (v:=?_) rfl (by kernel_rfl) (by kernel_rfl) (by kernel_rfl) (fun _ _ _ h=>h) (by kernel_rfl) (Or.inl ⟨by kernel_rfl,?_⟩) ((Kept.of_below HD.out lca.DS B)) ?_
 rotate_left 1
 focus (intro w' hSw;obtain⟨q0,q1,q2,q3,q4⟩:=HCE.out w' hSw;clear hSw;go_simp;(try with_reducible rfl))
 try simp only [words.pt]
 refine held.wpT_take (i:=8) (oi:=⟨some 13,_,_,_,_,_⟩) (v:=?_) rfl (by kernel_rfl) (by kernel_rfl) (by kernel_rfl) (fun _ _ _ h=>h) (Or.inl ⟨by kernel_rfl,?_⟩) ?_
 rotate_left 1
 ·intro _ _;go_simp;(try with_reducible rfl)
 try simp only [words.pt]
 refine held.wpT_take (i:=9) (oi:=⟨some 14,_,_,_,_,_⟩) (v:=?_) rfl (by kernel_rfl) (by kernel_rfl) (by kernel_rfl) (fun _ _ _ h=>h) (Or.inl ⟨by kernel_rfl,?_⟩) ?_
 rotate_left 1
 ·intro _ _;go_simp;(try with_reducible rfl)
 try simp only [words.pt]
 refine held.wpT_load (i:=10) (oi:=⟨some 15,_,_,_,_,_⟩) (v:=?_) rfl (by kernel_rfl) (by kernel_rfl) (by kernel_rfl) (fun _ _ _ h=>h) (by kernel_rfl) (Or.inl ⟨by kernel_rfl,?_⟩) ((Kept.of_below HD.out lca.DS B)) ?_
 rotate_left 1
 focus (intro w' hSw;obtain⟨q0,q1,q2,q3,q4⟩:=HCE.out w' hSw;clear hSw;go_simp;(try with_reducible rfl))
 try simp only [words.pt]
 refine held.wpT_load (i:=11) (oi:=⟨some 16,_,_,_,_,_⟩) (v:=?_) rfl (by kernel_rfl) (by kernel_rfl) (by kernel_rfl) (fun _ _ _ h=>h) (by kernel_rfl) (Or.inl ⟨by kernel_rfl,?_⟩) ((Kept.of_below HD.out lca.DS B)) ?_
 rotate_left 1
 focus (intro w' hSw;obtain⟨q0,q1,q2,q3,q4⟩:=HCE.out w' hSw;clear hSw;go_simp;(try with_reducible rfl))
 try simp only [words.pt]
 refine held.wpT_one (i:=12) (by kernel_rfl) rfl (fun Kc hK=>?_);go_simp
 refine hK.out _ _ (fun _ h=>h) ?_;clear hK;try simp only [words.pt]
 refine held.wpT_one (i:=13) (by kernel_rfl) rfl (fun Kc hK=>?_);go_simp
 go_at_call 37
 refine (HT.out).mono ?_;rintro en v1 ⟨Al,cl,Ls,rfl,he,hq,hs,hk⟩;refine hK.out _ _ (fun _ _=>((Kept.of_below HD.out lca.DS B).trans hk)) ?_;clear hK;try simp only [words.pt]
 refine held.wpT_take (i:=14) (oi:=⟨some 4,_,_,_,_,_⟩) (v:=?_) rfl (by kernel_rfl) (by kernel_rfl) (by kernel_rfl) (fun _ _ _ h=>h) (Or.inl ⟨by kernel_rfl,?_⟩) ?_
 rotate_left 1
 ·intro _ _;go_simp;(try with_reducible rfl)
 try simp only [words.pt]
 refine held.wpT_done (by kernel_rfl) ?_ _;have hk9:=((Kept.of_below HB1.out lca.DS B).trans (Kept.of_below HD.out lca.DS B)).trans hk;have HE:Hid (ListV w B b d l (fun _ Ls=>∃bo,Ls=d.Ls.set i ⟨c.g,bo,c.r,getL c.L p⟩) d.z (.returned (.slice Al l.length cl)) v1):=hid ⟨Al,cl,Ls,rfl,he.mono (Nat.le_trans HB1.out.size HD.out.size),hq,hs,hk9⟩;clear he hq hs hk hk9;go_wp2_with fail
 go_ret
 exact HE.out
end
end Go.Proofs.YtkjpgheealfedaaGreatDoor.svr
