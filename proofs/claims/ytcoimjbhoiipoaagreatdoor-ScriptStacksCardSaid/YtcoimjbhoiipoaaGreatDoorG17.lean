import Derived.Test.YtcoimjbhoiipoaaGreatDoorG16
import Derived.Deep.DeepCutAuto
set_option maxHeartbeats 6400000
set_option maxRecDepth 100000
open Go.Lib (hid)
open Go.Proofs.Tryz hiding parts
namespace Go.Proofs.YtcoimjbhoiipoaaGreatDoor.tre
open Go.RowKit words ext name

def bareB (n:Nd):Bool:=noneB n&&emptyB n&&n.T.size==0
theorem Jdp {s:ByteArray} (h:s.size=0):s.toList.isEmpty=true:=by
 rw [List.isEmpty_iff,name.to_list];exact List.eq_nil_of_length_eq_zero (by rw [name.size_list];exact h)
theorem Je2 {s:ByteArray} (h:s.size≠0):s.toList.isEmpty=false:=by
 rw [List.isEmpty_eq_false_iff];intro e;have:s.toList.length=0:=by rw [e];rfl
 rw [name.to_list,name.size_list] at this;exact h this
theorem Jc2 {k:Nat} (h:k=0):(((k:Nat):Int)==0)=true:=by rw [h];rfl
theorem Jeb {k:Nat} (h:k≠0):(((k:Nat):Int)==0)=false:=by rw [beq_eq_false_iff_ne];omega
theorem Jjd {n:Nd} (h:n.O=true):noneB n=false:=by unfold noneB;rw [h];rfl
theorem Jl9 {n:Nd} (h:n.N.length≠0):noneB n=false:=by unfold noneB;rw [show (n.N.length==0)=false by rw [beq_eq_false_iff_ne];exact h,Bool.and_false,Bool.false_and]
theorem Jn6 {n:Nd} (h:n.I.length≠0):noneB n=false:=by unfold noneB;rw [show (n.I.length==0)=false by rw [beq_eq_false_iff_ne];exact h,Bool.and_false]
theorem Jnq {n:Nd} (h1:n.O=false) (h2:n.N.length=0) (h3:n.I.length=0):noneB n=true:=by unfold noneB;rw [h1,h2,h3];rfl
theorem Jku {n:Nd} (h:n.S≠0):emptyB n=false:=by unfold emptyB;rw [show (n.S==0)=false by rw [beq_eq_false_iff_ne];exact h,Bool.false_and]
theorem Jkv {n:Nd} (h:n.E.length≠0):emptyB n=false:=by unfold emptyB;rw [show (n.E.length==0)=false by rw [beq_eq_false_iff_ne];exact h,Bool.and_false]
theorem Jkr {n:Nd} (h1:n.S=0) (h2:n.E.length=0):emptyB n=true:=by unfold emptyB;rw [h1,h2];rfl
theorem Jo3 (n:Nd) (r:Raw) (w:World):Calls prog 84 #[ndV n r] w fun e w'=>e= .returned (.bool (bareB n))∧Below w.heap.size w w':=by
 have HB:=hid (show Below w.heap.size w (w.alloc (.cells (rawCells n r) 28)) from (Below.refl _ _).alloc (Nat.le_refl _) _);unfold rawCells at HB;unfold ndV rawCells;rcases hO:n.O with _ |_
 ·by_cases h2:n.N.length=0
  ·have z2:=Jc2 h2
   by_cases h3:n.I.length=0
   ·have z3:=Jc2 h3
    have H4:=hid (Jnq hO h2 h3);by_cases h5:n.S=0
    ·have z5:(n.S==0)=true:=by rw [h5];rfl
     by_cases h6:n.E.length=0
     ·have z6:=Jc2 h6
      have H6:=hid (Jkr h5 h6);by_cases h7:n.T.size=0
      ·have z7:=Jdp h7
       have HF:=hid (show true=bareB n by unfold bareB;rw [H4.out,H6.out,h7];rfl);clear h2 h3 h5 h6 h7;go_enter func84,ntmps84
       go_wp2_with fail
       go_ret
       rw [hO] at HB;exact⟨Jac HF.out,HB.out⟩
      ·have z7:=Je2 h7
       have HF:=hid (show false=bareB n by unfold bareB;rw [show (n.T.size==0)=false by rw [beq_eq_false_iff_ne];exact h7,Bool.and_false]);clear h2 h3 h5 h6 h7;go_enter func84,ntmps84
       go_wp2_with fail
       go_ret
       rw [hO] at HB;exact⟨Jac HF.out,HB.out⟩
     ·have z6:=Jeb h6
      have HF:=hid (show false=bareB n by unfold bareB;rw [Jkv h6,Bool.and_false,Bool.false_and]);clear h2 h3 h5 h6;go_enter func84,ntmps84
      go_wp2_with fail
      go_ret
      rw [hO] at HB;exact⟨Jac HF.out,HB.out⟩
    ·have z5:(n.S==0)=false:=by rw [beq_eq_false_iff_ne];exact h5
     have HF:=hid (show false=bareB n by unfold bareB;rw [Jku h5,Bool.and_false,Bool.false_and]);clear h2 h3 h5;go_enter func84,ntmps84
     go_wp2_with fail
     go_ret
     rw [hO] at HB;exact⟨Jac HF.out,HB.out⟩
   ·have z3:=Jeb h3
    have HF:=hid (show false=bareB n by unfold bareB;rw [Jn6 h3,Bool.false_and,Bool.false_and]);clear h2 h3;go_enter func84,ntmps84
    go_wp2_with fail
    go_ret
    rw [hO] at HB;exact⟨Jac HF.out,HB.out⟩
  ·have z2:=Jeb h2
   have HF:=hid (show false=bareB n by unfold bareB;rw [Jl9 h2,Bool.false_and,Bool.false_and]);clear h2;go_enter func84,ntmps84
   go_wp2_with fail
   go_ret
   rw [hO] at HB;exact⟨Jac HF.out,HB.out⟩
 ·have HF:=hid (show false=bareB n by unfold bareB;rw [Jjd hO,Bool.false_and,Bool.false_and])
  go_enter func84,ntmps84
  go_wp2_with fail
  go_ret
  rw [hO] at HB;exact⟨Jac HF.out,HB.out⟩

theorem Jix (b:Bool) (size:Int) (A:Option Addr) (cap:Nat) (L:List Ex) (w:World) (hI:Exts w w.heap.size A L) (hlen:L.length≤4611686018427387904) (hs1: -9223372036854775808≤size) (hs2:size≤9223372036854775807) (hb:rightB size L=b):
  Calls prog 48 #[.int .i64 size,.slice A L.length cap] w fun e w'=>e= .returned (.bool b)∧Below w.heap.size w w':=
 (Jba size A cap L w hI hlen hs1 hs2).mono fun _ _ ⟨he,n,hn⟩=>⟨by rw [he,hb],by rw [←hn];exact below_drewN (Below.refl _ _) _⟩
theorem Jl2 (b:Bool) (n:Nd) (r:Raw) (w:World) (hN:Txts w w.heap.size r.An n.N) (fit:Fit n r) (hb:(n.N.length==n.I.length&&riseB n.N)=b):
  Calls prog 49 #[ndV n r] w fun e w'=>e= .returned (.bool b)∧Below w.heap.size w w':=
 (Jjk n r w hN fit).mono fun _ _ ⟨he,hw⟩=>⟨by rw [he,hb],hw⟩

theorem Jil {n:Nd} (h:n.K=1):oneB n=(noneB n&&n.T.size==0&&rightB n.S n.E):=by unfold oneB;rw [if_pos h]
theorem Jfy {n:Nd} (h:n.K=2):oneB n=(emptyB n&&n.T.size==0&&(n.N.length==n.I.length&&riseB n.N)):=by unfold oneB;rw [if_neg (by omega),if_pos h]
theorem Jfw {n:Nd} (h:n.K=3):oneB n=(noneB n&&emptyB n&&pathB n.T):=by unfold oneB;rw [if_neg (by omega),if_neg (by omega),if_pos h]
theorem Jhr {n:Nd} (h:n.K=4):oneB n=(noneB n&&emptyB n&&n.T.size==0):=by unfold oneB;rw [if_neg (by omega),if_neg (by omega),if_neg (by omega),if_pos h]
theorem Jhi {n:Nd} (h1:n.K≠1) (h2:n.K≠2) (h3:n.K≠3) (h4:n.K≠4):oneB n=false:=by unfold oneB;rw [if_neg h1,if_neg h2,if_neg h3,if_neg h4]
theorem Jgu {s:ByteArray} (h:s.size=0):(s.size==0)=true:=by rw [h];rfl
theorem Jjf {s:ByteArray} (h:s.size≠0):(s.size==0)=false:=by rw [beq_eq_false_iff_ne];exact h
theorem Jjw (s:ByteArray) (w:World) (hs:s.size≤9223372036854775807):
  Calls prog 50 #[.string s] w fun e w'=>(∃v,e= .returned (.tuple #[v,.bool (parts s.data.toList).isSome]))∧Below w.heap.size w w':=
 (Jic s w hs).mono fun _ _ ⟨hr,hb⟩=>⟨by
   rcases hr with⟨hp,he⟩ |⟨v,Q,hp,he,_⟩
   ·exact⟨_,by rw [he,hp];rfl⟩
   ·exact⟨v,by rw [he,hp];rfl⟩,hb⟩

theorem Jrl (n:Nd) (r:Raw) (w:World) (hN:NdAt w w.heap.size n r):Calls prog 34 #[ndV n r] w fun e w'=>e= .returned (.bool (oneB n))∧Below w.heap.size w w':=by
 obtain⟨W1,hW1⟩:=words.nm (w.alloc (.cells (rawCells n r) 28));have hb1:=words.b1 hW1;have HX1:Hid (Box W1 w.heap.size n r):=by rw [hW1];exact hid (Box.new w n r)
 have HN:=hid (hN.later hb1);have fit:=hN.fit;have f1:=fit.le;have f2:=fit.s1;have f3:=fit.s2;have f4:=fit.t;have HFit:=hid fit;have HB1:=hid hb1;unfold rawCells at hW1;have HW1:=hid hW1;clear hN fit hb1 hW1;unfold ndV rawCells;go_enter func34,ntmps34
 go_upto_region 1 with fail
 rw [←HW1.out];obtain⟨b0,b1,b2,b3,b4,b5,b6⟩:=HX1.out.cells;obtain⟨nb,hnb⟩:=words.nm (noneB n);have HNb:=hid hnb;clear hnb;go_cut [0,3] (fun _ s3 wx=>s3= .bool nb∧wx=W1)
 case first=>
  rcases hO:n.O with _ |_
  ·by_cases h2:n.N.length=0
   ·have z2:=Jc2 h2
    by_cases h3:n.I.length=0
    ·have z3:=Jc2 h3
     have HF:=hid (show true=nb by rw [HNb.out,Jnq hO h2 h3]);clear h2 h3;go_wp2_with fail
     go_meet
     exact⟨by rw [←HF.out],rfl⟩
    ·have z3:=Jeb h3
     have HF:=hid (show false=nb by rw [HNb.out,Jn6 h3]);clear h2 h3;go_wp2_with fail
     go_meet
     exact⟨by rw [←HF.out],rfl⟩
   ·have z2:=Jeb h2
    have HF:=hid (show false=nb by rw [HNb.out,Jl9 h2]);clear h2;go_wp2_with fail
    go_meet
    exact⟨by rw [←HF.out],rfl⟩
  ·have HF:=hid (show false=nb by rw [HNb.out,Jjd hO])
   go_wp2_with fail
   go_meet
   exact⟨by rw [←HF.out],rfl⟩
 case rest=>
  obtain⟨rfl,hw⟩:=hcut;subst hw;obtain⟨eb,heb⟩:=words.nm (emptyB n);have HEb:=hid heb;clear heb;go_upto_region 2 with fail
  go_cut [4] (fun s4 wx=>s4= .bool eb∧wx=wc)
  case first=>
   by_cases h5:n.S=0
   ·have z5:(n.S==0)=true:=by rw [h5];rfl
    by_cases h6:n.E.length=0
    ·have z6:=Jc2 h6
     have HF:=hid (show true=eb by rw [HEb.out,Jkr h5 h6]);clear h5 h6;go_wp2_with fail
     go_meet
     exact⟨by rw [←HF.out],rfl⟩
    ·have z6:=Jeb h6
     have HF:=hid (show false=eb by rw [HEb.out,Jkv h6]);clear h5 h6;go_wp2_with fail
     go_meet
     exact⟨by rw [←HF.out],rfl⟩
   ·have z5:(n.S==0)=false:=by rw [beq_eq_false_iff_ne];exact h5
    have HF:=hid (show false=eb by rw [HEb.out,Jku h5]);clear h5;go_wp2_with fail
    go_meet
    exact⟨by rw [←HF.out],rfl⟩
  case rest=>
   obtain⟨rfl,hw⟩:=hcut;subst hw;have hHN:=HN.out;by_cases k1:n.K=1
   ·have g1:(n.K==1)=true:=by rw [k1];rfl
    have HO:=hid (Jil k1);clear k1;cases nb
    ·have HF:=hid (show false=oneB n by rw [HO.out,←HNb.out,Bool.false_and,Bool.false_and])
     go_wp2_with fail
     go_ret
     exact⟨Jac HF.out,HB1.out⟩
    ·by_cases h7:n.T.size=0
     ·have z7:=Jdp h7
      obtain⟨rt,hrt⟩:=words.nm (rightB n.S n.E);have HF:=hid (show rt=oneB n by rw [HO.out,←HNb.out,Jgu h7,hrt];rfl);have HRt:=hid hrt;clear h7 hrt;go_wp2_with fail
      refine (Jix rt n.S r.Ae r.ce n.E _ HN.out.exts (by omega) f2 f3 HRt.out.symm).mono ?_;rintro e w2 ⟨rfl,hb2⟩;have HB2:=hid (HB1.out.trans (hb2.mono HB1.out.size));clear hb2;go_wp2_with fail
      go_ret
      exact⟨Jac HF.out,HB2.out⟩
     ·have z7:=Je2 h7
      have HF:=hid (show false=oneB n by rw [HO.out,Jjf h7,Bool.and_false,Bool.false_and]);clear h7;go_wp2_with fail
      go_ret
      exact⟨Jac HF.out,HB1.out⟩
   have g1:(n.K==1)=false:=by rw [beq_eq_false_iff_ne];exact k1
   by_cases k2:n.K=2
   ·have g2:(n.K==2)=true:=by rw [k2];rfl
    have HO:=hid (Jfy k2);clear k1 k2;cases eb
    ·have HF:=hid (show false=oneB n by rw [HO.out,←HEb.out,Bool.false_and,Bool.false_and])
     go_wp2_with fail
     go_ret
     exact⟨Jac HF.out,HB1.out⟩
    ·by_cases h7:n.T.size=0
     ·have z7:=Jdp h7
      obtain⟨rt,hrt⟩:=words.nm ((n.N.length==n.I.length&&riseB n.N));have HF:=hid (show rt=oneB n by rw [HO.out,←HEb.out,Jgu h7,hrt];rfl);have HRt:=hid hrt;clear h7 hrt;go_wp2_with fail
      refine (Jl2 rt n r _ HN.out.names HFit.out HRt.out.symm).mono ?_;rintro e w2 ⟨rfl,hb2⟩;have HB2:=hid (HB1.out.trans (hb2.mono HB1.out.size));clear hb2;go_wp2_with fail
      go_ret
      exact⟨Jac HF.out,HB2.out⟩
     ·have z7:=Je2 h7
      have HF:=hid (show false=oneB n by rw [HO.out,Jjf h7,Bool.and_false,Bool.false_and]);clear h7;go_wp2_with fail
      go_ret
      exact⟨Jac HF.out,HB1.out⟩
   have g2:(n.K==2)=false:=by rw [beq_eq_false_iff_ne];exact k2
   by_cases k3:n.K=3
   ·have g3:(n.K==3)=true:=by rw [k3];rfl
    have HO:=hid (Jfw k3);obtain⟨pt,hpt⟩:=words.nm ((parts n.T.data.toList).isSome);have HSp:=hid (Jjw n.T wc (by omega));rw [←hpt] at HSp;have HPt:=hid hpt;clear k1 k2 k3 hpt;go_wp2_with fail
    refine HSp.out.mono ?_;rintro e w2 ⟨⟨v,rfl⟩,hb2⟩;have HB2:=hid (HB1.out.trans (hb2.mono HB1.out.size));have hx2:=HX1.out.below hb2;obtain⟨d0,d1,d2,d3,d4,d5,d6⟩:=hx2.cells;clear hb2 hx2 HSp;cases nb
    ·have HF:=hid (show false=oneB n by rw [HO.out,←HNb.out,Bool.false_and,Bool.false_and])
     go_wp2_with fail
     go_ret
     exact⟨Jac HF.out,HB2.out⟩
    ·cases eb
     ·have HF:=hid (show false=oneB n by rw [HO.out,←HEb.out,Bool.and_false,Bool.false_and])
      go_wp2_with fail
      go_ret
      exact⟨Jac HF.out,HB2.out⟩
     ·cases pt
      ·have HF:=hid (show false=oneB n by rw [HO.out];unfold pathB;rw [←HPt.out,Bool.false_and,Bool.and_false])
       go_wp2_with fail
       go_ret
       exact⟨Jac HF.out,HB2.out⟩
      ·have HF:=hid (show decide (n.T.size≤256)=oneB n by rw [HO.out,←HNb.out,←HEb.out];unfold pathB;rw [←HPt.out];rfl)
       by_cases h7:n.T.size≤256
       ·have g7:(n.T.size:Int)≤256:=by omega
        rw [decide_eq_true h7] at HF;clear h7;go_wp2_with fail
        go_ret
        exact⟨Jac ((decide_eq_true g7).symm.trans (HF.out▸decide_eq_true g7)),HB2.out⟩
       ·have g7:¬(n.T.size:Int)≤256:=by omega
        rw [decide_eq_false h7] at HF;clear h7;go_wp2_with fail
        go_ret
        exact⟨Jac ((decide_eq_false (by omega)).trans HF.out),HB2.out⟩
   have g3:(n.K==3)=false:=by rw [beq_eq_false_iff_ne];exact k3
   by_cases k4:n.K=4
   ·have g4:(n.K==4)=true:=by rw [k4];rfl
    have HO:=hid (Jhr k4);clear k1 k2 k3 k4;cases nb
    ·have HF:=hid (show false=oneB n by rw [HO.out,←HNb.out,Bool.false_and,Bool.false_and])
     go_wp2_with fail
     go_ret
     exact⟨Jac HF.out,HB1.out⟩
    ·cases eb
     ·have HF:=hid (show false=oneB n by rw [HO.out,←HEb.out,Bool.and_false,Bool.false_and])
      go_wp2_with fail
      go_ret
      exact⟨Jac HF.out,HB1.out⟩
     ·by_cases h7:n.T.size=0
      ·have z7:=Jdp h7
       have HF:=hid (show true=oneB n by rw [HO.out,←HNb.out,←HEb.out,Jgu h7];rfl);clear h7;go_wp2_with fail
       go_ret
       exact⟨Jac HF.out,HB1.out⟩
      ·have z7:=Je2 h7
       have HF:=hid (show false=oneB n by rw [HO.out,Jjf h7,Bool.and_false]);clear h7;go_wp2_with fail
       go_ret
       exact⟨Jac HF.out,HB1.out⟩
   have g4:(n.K==4)=false:=by rw [beq_eq_false_iff_ne];exact k4
   have HF:=hid (show false=oneB n by rw [Jhi k1 k2 k3 k4]);clear k1 k2 k3 k4;go_wp2_with fail
   go_ret
   exact⟨Jac HF.out,HB1.out⟩

theorem Ji4 (b:Bool) (size:Int) (A:Option Addr) (cap:Nat) (L:List Ex) (w:World) (hI:Exts w w.heap.size A L) (hlen:L.length≤9223372036854775807) (hs1: -9223372036854775808≤size) (hs2:size≤9223372036854775807) (hb:rightB size L=b):
  Calls prog 81 #[.int .i64 size,.slice A L.length cap] w fun e w'=>e= .returned (.bool b)∧Below w.heap.size w w':=
 (Jfe size A cap L w hI hlen hs1 hs2).mono fun _ _ ⟨he,hw⟩=>⟨by rw [he,hb],hw⟩
theorem Jmu (b:Bool) (A:Option Addr) (cap:Nat) (N:List ByteArray) (w:World) (hI:Txts w w.heap.size A N) (hlen:N.length≤4611686018427387904) (hb:riseB N=b):
  Calls prog 82 #[.slice A N.length cap] w fun e w'=>e= .returned (.bool b)∧w=w':=
 (Jlq A cap N w hI hlen).mono fun _ _ ⟨he,hw⟩=>⟨by rw [he,hb],hw⟩
theorem Jmc (b:Bool) (s:ByteArray) (m:Int) (w:World) (hs:s.size≤140737488355328) (hm:w.cell? ⟨0,0,none⟩=some (.int .i64 m)) (hb:pathB s=b):
  Calls prog 83 #[.string s] w fun e w'=>e= .returned (.bool b)∧Below w.heap.size w w':=
 (Jl1 s m w hs hm).mono fun _ _ ⟨he,hw⟩=>⟨by rw [he,hb],hw⟩
theorem Jg0 (b:Bool) (n:Nd) (r:Raw) (w:World) (hb:bareB n=b):Calls prog 84 #[ndV n r] w fun e w'=>e= .returned (.bool b)∧Below w.heap.size w w':=
 (Jo3 n r w).mono fun _ _ ⟨he,hw⟩=>⟨by rw [he,hb],hw⟩
theorem below_cell {a w:World} {p:Addr} {u:Value} (h:a.cell? p=some u) (hb:Below a.heap.size a w):w.cell? p=some u:=
 (hb.cell (World.block_lt_of_cell? a _ h)).trans h
theorem Jm1 (n:Nd) (r:Raw) (m:Int) (w:World) (hN:NdAt w w.heap.size n r) (hm:w.cell? ⟨0,0,none⟩=some (.int .i64 m)):
  Calls prog 58 #[ndV n r] w fun e w'=>e= .returned (.bool (oneB n))∧Below w.heap.size w w':=by
 obtain⟨W1,hW1⟩:=words.nm (w.alloc (.cells (rawCells n r) 28));have hb1:=words.b1 hW1;have HX1:Hid (Box W1 w.heap.size n r):=by rw [hW1];exact hid (Box.new w n r)
 have HN:=hid (hN.later hb1);have HM:=hid (below_cell hm hb1);have fit:=hN.fit;have f1:=fit.le;have f2:=fit.s1;have f3:=fit.s2;have f4:=fit.t;have f5:=fit.ln;have f6:=fit.li;have HB1:=hid hb1;unfold rawCells at hW1;have HW1:=hid hW1;clear hN fit hb1 hW1 hm;unfold ndV rawCells;by_cases k1:n.K=1
 ·have g1:(n.K==1)=true:=by rw [k1];rfl
  obtain⟨rt,hrt⟩:=words.nm (rightB n.S n.E);obtain⟨br,hbr⟩:=words.nm (bareB (.mk n.K n.O n.N n.I 0 [] n.T));have HO:=hid (show oneB n=(rt&&br) by
    rw [Jil k1,hrt,hbr];show (noneB n&&n.T.size==0&&_)=(_&&(noneB n&&true&&n.T.size==0))
    cases noneB n<;>cases (n.T.size==0)<;>simp)
  have HRt:=hid hrt;have HBr:=hid hbr;clear k1 hrt hbr;go_enter func58,ntmps58
  go_wp2_with fail
  rw [←HW1.out];obtain⟨b0,b1,b2,b3,b4,b5,b6⟩:=HX1.out.cells;go_wp2_with fail
  refine (Ji4 rt n.S r.Ae r.ce n.E _ HN.out.exts (by omega) f2 f3 HRt.out.symm).mono ?_;rintro e w2 ⟨rfl,hb2⟩;have HB2:=hid (HB1.out.trans (hb2.mono HB1.out.size));have HX2:=hid (HX1.out.below hb2);have z4:w2.frozen? ⟨w.heap.size,4,none⟩=false:=Jab HX2.out 4;have z5:w2.frozen? ⟨w.heap.size,5,none⟩=false:=Jab HX2.out 5;have HBs:=hid ((HB2.out.setCell (p:=⟨w.heap.size,4,none⟩) (Nat.le_refl _) (.int .i64 0)).setCell (p:=⟨w.heap.size,5,none⟩) (Nat.le_refl _) (.slice none 0 0));clear hb2 b0 b1 b2 b3 b4 b5 b6 HX1;obtain⟨b0,b1,b2,b3,b4,b5,b6⟩:=HX2.out.cells;cases rt
  ·go_wp2_with fail
   go_ret
   exact⟨Jac (by rw [HO.out];rfl),HBs.out⟩
  ·go_wp2_with fail
   refine (Jg0 br (.mk n.K n.O n.N n.I 0 [] n.T) {r with Ae:=none,ce:=0} _ HBr.out.symm).mono ?_;rintro e w3 ⟨rfl,hb3⟩;have HB3:=hid (HBs.out.trans (hb3.mono HBs.out.size));clear hb3;go_wp2_with fail
   go_ret
   exact⟨Jac (by rw [HO.out,Bool.true_and]),HB3.out⟩
 have g1:(n.K==1)=false:=by rw [beq_eq_false_iff_ne];exact k1
 by_cases k2:n.K=2
 ·have g2:(n.K==2)=true:=by rw [k2];rfl
  obtain⟨br,hbr⟩:=words.nm (bareB (.mk n.K false [] [] n.S n.E n.T));obtain⟨rt,hrt⟩:=words.nm (riseB n.N);have HO:=hid (show oneB n=((n.N.length==n.I.length)&&rt&&br) by
    rw [Jfy k2,hrt,hbr];show (emptyB n&&n.T.size==0&&_)=(_&&(true&&emptyB n&&n.T.size==0))
    cases emptyB n<;>cases (n.T.size==0)<;>simp)
  have HRt:=hid hrt;have HBr:=hid hbr;have z1:W1.frozen? ⟨w.heap.size,1,none⟩=false:=Jab HX1.out 1;have z2:W1.frozen? ⟨w.heap.size,2,none⟩=false:=Jab HX1.out 2;have z3:W1.frozen? ⟨w.heap.size,3,none⟩=false:=Jab HX1.out 3;have HBs:=hid (((HB1.out.setCell (p:=⟨w.heap.size,1,none⟩) (Nat.le_refl _) (.bool false)).setCell (p:=⟨w.heap.size,2,none⟩) (Nat.le_refl _) (.slice none 0 0)).setCell (p:=⟨w.heap.size,3,none⟩) (Nat.le_refl _) (.slice none 0 0));clear k1 k2 hrt hbr;by_cases hlen:n.I.length=n.N.length
  ·have g0:((n.I.length:Int)==(n.N.length:Int))=true:=by rw [hlen];simp
   have HE:=hid (show (n.N.length==n.I.length)=true by rw [beq_iff_eq];exact hlen.symm);clear hlen;go_enter func58,ntmps58
   go_wp2_with fail
   rw [←HW1.out];obtain⟨b0,b1,b2,b3,b4,b5,b6⟩:=HX1.out.cells;go_wp2_with fail
   refine (Jmu rt r.An r.cn n.N _ HN.out.names (by omega) HRt.out.symm).mono ?_;rintro e w2 ⟨rfl,rfl⟩;cases rt
   ·go_wp2_with fail
    go_ret
    exact⟨Jac (by rw [HO.out,Bool.and_false,Bool.false_and]),HBs.out⟩
   ·go_wp2_with fail
    refine (Jg0 br (.mk n.K false [] [] n.S n.E n.T) {r with An:=none,cn:=0,Ai:=none,ci:=0} _ HBr.out.symm).mono ?_;rintro e w3 ⟨rfl,hb3⟩;have HB3:=hid (HBs.out.trans (hb3.mono HBs.out.size));clear hb3;go_wp2_with fail
    go_ret
    exact⟨Jac (by rw [HO.out,HE.out];rfl),HB3.out⟩
  ·have g0:((n.I.length:Int)==(n.N.length:Int))=false:=by rw [beq_eq_false_iff_ne];omega
   have HE:=hid (show (n.N.length==n.I.length)=false by rw [beq_eq_false_iff_ne];exact fun h=>hlen h.symm);clear hlen;go_enter func58,ntmps58
   go_wp2_with fail
   go_ret
   exact⟨Jac (by rw [HO.out,HE.out,Bool.false_and,Bool.false_and]),(Below.refl _ _).alloc (Nat.le_refl _) _⟩
 have g2:(n.K==2)=false:=by rw [beq_eq_false_iff_ne];exact k2
 by_cases k3:n.K=3
 ·have g3:(n.K==3)=true:=by rw [k3];rfl
  obtain⟨rt,hrt⟩:=words.nm (pathB n.T);obtain⟨br,hbr⟩:=words.nm (bareB (.mk n.K n.O n.N n.I n.S n.E ⟨#[]⟩));have HO:=hid (show oneB n=(rt&&br) by
    rw [Jfw k3,hrt,hbr];show (noneB n&&emptyB n&&_)=(_&&(noneB n&&emptyB n&&true))
    cases noneB n<;>cases emptyB n<;>simp)
  have HRt:=hid hrt;have HBr:=hid hbr;clear k1 k2 k3 hrt hbr;go_enter func58,ntmps58
  go_wp2_with fail
  rw [←HW1.out];obtain⟨b0,b1,b2,b3,b4,b5,b6⟩:=HX1.out.cells;go_wp2_with fail
  refine (Jmc rt n.T m _ f4 HM.out HRt.out.symm).mono ?_;rintro e w2 ⟨rfl,hb2⟩;have HB2:=hid (HB1.out.trans (hb2.mono HB1.out.size));have HX2:=hid (HX1.out.below hb2);have z6:w2.frozen? ⟨w.heap.size,6,none⟩=false:=Jab HX2.out 6;have HBs:=hid (HB2.out.setCell (p:=⟨w.heap.size,6,none⟩) (Nat.le_refl _) (.string ⟨#[]⟩));clear hb2 b0 b1 b2 b3 b4 b5 b6 HX1;obtain⟨b0,b1,b2,b3,b4,b5,b6⟩:=HX2.out.cells;cases rt
  ·go_wp2_with fail
   go_ret
   exact⟨Jac (by rw [HO.out];rfl),HBs.out⟩
  ·go_wp2_with fail
   refine (Jg0 br (.mk n.K n.O n.N n.I n.S n.E ⟨#[]⟩) r _ HBr.out.symm).mono ?_;rintro e w3 ⟨rfl,hb3⟩;have HB3:=hid (HBs.out.trans (hb3.mono HBs.out.size));clear hb3;go_wp2_with fail
   go_ret
   exact⟨Jac (by rw [HO.out,Bool.true_and]),HB3.out⟩
 have g3:(n.K==3)=false:=by rw [beq_eq_false_iff_ne];exact k3
 by_cases k4:n.K=4
 ·have g4:(n.K==4)=true:=by rw [k4];rfl
  obtain⟨br,hbr⟩:=words.nm (bareB n);have HO:=hid (show oneB n=br by rw [Jhr k4,hbr];rfl);have HBr:=hid hbr;clear k1 k2 k3 k4 hbr;go_enter func58,ntmps58
  go_wp2_with fail
  rw [←HW1.out];obtain⟨b0,b1,b2,b3,b4,b5,b6⟩:=HX1.out.cells;go_wp2_with fail
  refine (Jg0 br n r _ HBr.out.symm).mono ?_;rintro e w3 ⟨rfl,hb3⟩;have HB3:=hid (HB1.out.trans (hb3.mono HB1.out.size));clear hb3;go_wp2_with fail
  go_ret
  exact⟨Jac HO.out.symm,HB3.out⟩
 have g4:(n.K==4)=false:=by rw [beq_eq_false_iff_ne];exact k4
 have HF:=hid (show false=oneB n by rw [Jhi k1 k2 k3 k4]);clear k1 k2 k3 k4;go_enter func58,ntmps58
 go_wp2_with fail
 go_ret
 exact⟨Jac HF.out,(Below.refl _ _).alloc (Nat.le_refl _) _⟩

theorem Jpg (b:Bool) (n:Nd) (r:Raw) (m:Int) (w:World) (hN:NdAt w w.heap.size n r) (hm:w.cell? ⟨0,0,none⟩=some (.int .i64 m)) (hb:oneB n=b):
  Calls prog 58 #[ndV n r] w fun e w'=>e= .returned (.bool b)∧Below w.heap.size w w':=
 (Jm1 n r m w hN hm).mono fun _ _ ⟨he,hw⟩=>⟨by rw [he,hb],hw⟩

theorem Jes (w:World) (o o':Obj):((w.alloc o).alloc o').heap[w.heap.size+1]?=some o':=by
 have h:=heap_alloc_new (w.alloc o) o';rw [show (w.alloc o).heap.size=w.heap.size+1 by simp] at h;exact h
theorem Jiy {W0:World} {m:Int} {bl:Nat} (hm:W0.cell? ⟨0,0,none⟩=some (.int .i64 m)) (hbl:W0.heap.size≤bl):
  Asker W0 57 #[.pointer (some ⟨bl,0,none⟩)] (some bl) (fun c w=>Cnt w bl c) stR:=by
 refine⟨enters_of func57 (by kernel_rfl) rfl,?_,fun c w w' h hg=>(hg.block bl h.lt (by simp)).trans h,fun c w b h hb=>by injection hb with hb;subst hb;exact⟨hbl,h.lt⟩⟩;intro n r d c w hN hb hc hd1 hd2;have HN:=hid hN;have HB:=hid hb;obtain⟨W1,hW1⟩:=words.nm (w.alloc (.cells (rawCells n r) 28));have HX1:Hid (Box W1 w.heap.size n r):=by rw [hW1];exact hid (Box.new w n r)
 have HC1:Hid (Cnt W1 bl c):=by rw [hW1];exact hid (hc.alloc _)
 have HG1:Hid (w.grownBy W1 (some bl)):=by rw [hW1];exact hid (Ja5 _ _ _)
 have HB1:Hid (Below W0.heap.size W0 W1):=by rw [hW1];exact hid (hb.alloc hb.size _)
 have hne:w.heap.size≠bl:=by have:=hc.lt;omega
 have hne':bl≠w.heap.size:=fun e=>hne e.symm;unfold rawCells at hW1;have HW1:=hid hW1;obtain⟨c1,hc1⟩:=words.nm (wrap64 (c+1));have hw:=hc1.symm;obtain⟨W2,hW2⟩:=words.nm (W1.setCell ⟨bl,0,none⟩ (.int .i64 c1));have HX2:Hid (Box W2 w.heap.size n r):=by rw [hW2];exact hid (HX1.out.grown (Jax _ _ _) (fun e=>hne (by injection e)))
 have HC2:Hid (Cnt W2 bl c1):=by rw [hW2];exact hid (HC1.out.set_ _)
 have HG2:Hid (w.grownBy W2 (some bl)):=by rw [hW2];exact hid (Jag HG1.out (Jax _ _ _))
 have HB2:Hid (Below W0.heap.size W0 W2):=by rw [hW2];exact hid (below_grown HB1.out (Nat.le_refl _) (Jax _ _ _) hbl)
 have HW2:=hid hW2;have HM2:=hid (below_cell hm HB2.out);have HN2:=hid (hN.later HB2.out);have HS:=hid (show stR n d c=(decide (c1≤4096)&&decide (d≤15)&&oneB n,c1) by unfold stR;rw [←hc1]);obtain⟨ob,hob⟩:=words.nm (oneB n);have HOb:=hid hob;clear hN hb hc hm hW1 hW2 hc1 hob;unfold ndV rawCells;go_enter func57,ntmps57
 go_upto_region 1 with fail
 rw [←HW1.out];have hfz:=HC1.out.free;have hcl:=HC1.out.cell;obtain⟨b0,b1,b2,b3,b4,b5,b6⟩:=HX1.out.cells;go_upto_region 2 with fail
 rw [←HW2.out];clear b0 b1 b2 b3 b4 b5 b6 hfz hcl hw;have hcl:=HC2.out.cell;obtain⟨b0,b1,b2,b3,b4,b5,b6⟩:=HX2.out.cells;by_cases h1:c1≤4096
 ·by_cases h2:d≤15
  ·have g1:decide (c1≤4096)=true:=decide_eq_true h1
   have g2:decide (d≤15)=true:=decide_eq_true h2;have HF:=hid (show stR n d c=(ob,c1) by rw [HS.out,g1,g2,←HOb.out];rfl);clear h1 h2;go_wp2_with fail
   refine (Jpg ob n r m _ HN2.out HM2.out HOb.out.symm).mono ?_;rintro e w3 ⟨rfl,hb3⟩;have HC3:=hid (HC2.out.below hb3);have HG3:=hid (Jag HG2.out (Jaw hb3 _));clear hb3;go_wp2_with fail
   go_ret
   exact⟨Jbe HF.out,Jb6 HF.out HC3.out,HG3.out⟩
  ·have g1:decide (c1≤4096)=true:=decide_eq_true h1
   have g2:decide (d≤15)=false:=decide_eq_false h2;have HF:=hid (show stR n d c=(false,c1) by rw [HS.out,g1,g2];rfl);clear h1 h2;go_wp2_with fail
   go_ret
   exact⟨Jbe HF.out,Jb6 HF.out HC2.out,HG2.out⟩
 ·have g1:decide (c1≤4096)=false:=decide_eq_false h1
  have HF:=hid (show stR n d c=(false,c1) by rw [HS.out,g1];rfl);clear h1;go_wp2_with fail
  go_ret
  exact⟨Jbe HF.out,Jb6 HF.out HC2.out,HG2.out⟩
theorem Jje {W0:World} {bl:Nat} (hbl:W0.heap.size≤bl):
  Asker W0 59 #[.pointer (some ⟨bl,0,none⟩)] (some bl) (fun c w=>Cnt w bl c) stC:=by
 refine⟨enters_of func59 (by kernel_rfl) rfl,?_,fun c w w' h hg=>(hg.block bl h.lt (by simp)).trans h,fun c w b h hb=>by injection hb with hb;subst hb;exact⟨hbl,h.lt⟩⟩;intro n r d c w hN hb hc hd1 hd2;obtain⟨W1,hW1⟩:=words.nm (w.alloc (.cells (rawCells n r) 28));have HC1:Hid (Cnt W1 bl c):=by rw [hW1];exact hid (hc.alloc _)
 have HG1:Hid (w.grownBy W1 (some bl)):=by rw [hW1];exact hid (Ja5 _ _ _)
 have hne:w.heap.size≠bl:=by have:=hc.lt;omega
 have hne':bl≠w.heap.size:=fun e=>hne e.symm;unfold rawCells at hW1;have HW1:=hid hW1;obtain⟨c1,hc1⟩:=words.nm (wrap64 (c+1));have hw:=hc1.symm;have HC2:=hid (HC1.out.set_ c1);have HG2:=hid (Jag HG1.out (Jax W1 bl (.int .i64 c1)));have HS:=hid (show stC n d c=(decide (d≤65536),c1) by unfold stC;rw [←hc1]);clear hN hb hc hW1 hc1;unfold ndV rawCells;go_enter func59,ntmps59
 go_upto_region 1 with fail
 rw [←HW1.out];have hfz:=HC1.out.free;have hcl:=HC1.out.cell;by_cases h1:d≤65536
 ·have g1:decide (d≤65536)=true:=decide_eq_true h1
  have HF:=hid (show stC n d c=(true,c1) by rw [HS.out,g1]);clear h1;go_wp2_with fail
  go_ret
  exact⟨Jbe HF.out,Jb6 HF.out HC2.out,HG2.out⟩
 ·have g1:decide (d≤65536)=false:=decide_eq_false h1
  have HF:=hid (show stC n d c=(false,c1) by rw [HS.out,g1]);clear h1;go_wp2_with fail
  go_ret
  exact⟨Jbe HF.out,Jb6 HF.out HC2.out,HG2.out⟩
theorem Jd2 (n:Nd) (r:Raw) (m:Int) (w:World) (hN:NdAt w w.heap.size n r) (hm:w.cell? ⟨0,0,none⟩=some (.int .i64 m)) (hd:depth n≤1000):
  Calls prog 39 #[ndV n r] w fun e w'=>e= .returned (.bool (treeB n))∧Below w.heap.size w w':=by
 obtain⟨W1,hW1⟩:=words.nm ((w.alloc (.cells (rawCells n r) 28)).alloc (.cells #[.int .i64 0] 3));have hb1:Below w.heap.size w W1:=by rw [hW1];exact ((Below.refl _ _).alloc (Nat.le_refl _) _).alloc (by simp) _
 have HX1:Hid (Box W1 w.heap.size n r):=by rw [hW1];exact hid ((Box.new w n r).alloc _)
 have hc1:Cnt W1 (w.heap.size+1) 0:=by
  rw [hW1];exact Jes _ _ _
 have HI:=hid (Jnm (Jiy (bl:=w.heap.size+1) hm (by omega)) (depth n+1) n r 0 0 W1 (by omega) hN hb1 hc1 (by omega) (by omega));have HB1:=hid hb1;unfold rawCells at hW1;have HW1:=hid hW1;unfold ndV rawCells at HI;clear hN hm hb1 hc1 hW1;unfold ndV rawCells;by_cases k2:n.K=2
 ·have g2:(n.K==2)=true:=by rw [k2];rfl
  obtain⟨p1,hp1⟩:=words.nm ((eachS stR n 0 0).1);rw [←hp1] at HI;have HF:=hid (show p1=treeB n by unfold treeB;rw [g2,←hp1,Bool.true_and]);clear k2 hp1;go_enter func39,ntmps39
  go_upto_region 2 with fail
  rw [←HW1.out];obtain⟨b0,b1,b2,b3,b4,b5,b6⟩:=HX1.out.cells;go_wp2_with fail
  refine HI.out.mono ?_;rintro e w2 ⟨rfl,_,hg2⟩;have HB2:=hid (below_grown HB1.out (Nat.le_refl _) hg2 (by omega));clear hg2 HI;go_wp2_with fail
  go_ret
  exact⟨Jac HF.out,HB2.out⟩
 ·have g2:(n.K==2)=false:=by rw [beq_eq_false_iff_ne];exact k2
  have HF:=hid (show false=treeB n by unfold treeB;rw [g2,Bool.false_and]);clear k2;go_enter func39,ntmps39
  go_upto_region 2 with fail
  rw [←HW1.out];obtain⟨b0,b1,b2,b3,b4,b5,b6⟩:=HX1.out.cells;go_wp2_with fail
  go_ret
  exact⟨Jac HF.out,HB1.out⟩

def countC (n:Nd):Int:=(eachS stC n 0 0).2
theorem Jgq (n:Nd) (r:Raw) (w:World) (hN:NdAt w w.heap.size n r) (hd:depth n≤1000):
  Calls prog 40 #[ndV n r] w fun e w'=>e= .returned (.int .i64 (countC n))∧Below w.heap.size w w':=by
 obtain⟨W1,hW1⟩:=words.nm ((w.alloc (.cells (rawCells n r) 28)).alloc (.cells #[.int .i64 0] 3));have hb1:Below w.heap.size w W1:=by rw [hW1];exact ((Below.refl _ _).alloc (Nat.le_refl _) _).alloc (by simp) _
 have HX1:Hid (Box W1 w.heap.size n r):=by rw [hW1];exact hid ((Box.new w n r).alloc _)
 have hc1:Cnt W1 (w.heap.size+1) 0:=by
  rw [hW1];exact Jes _ _ _
 have HI:=hid (Jnm (Jje (W0:=w) (bl:=w.heap.size+1) (by omega)) (depth n+1) n r 0 0 W1 (by omega) hN hb1 hc1 (by omega) (by omega));have HB1:=hid hb1;unfold rawCells at hW1;have HW1:=hid hW1;unfold ndV rawCells at HI;clear hN hb1 hc1 hW1;unfold ndV rawCells;go_enter func40,ntmps40
 go_upto_region 2 with fail
 rw [←HW1.out];obtain⟨b0,b1,b2,b3,b4,b5,b6⟩:=HX1.out.cells;go_wp2_with fail
 refine HI.out.mono ?_;rintro e w2 ⟨rfl,hc2,hg2⟩;have HB2:=hid (below_grown HB1.out (Nat.le_refl _) hg2 (by omega));have k0:=Cnt.cell (show Cnt w2 (w.heap.size+1) (countC n) from hc2);clear hg2 hc2 HI;go_wp2_with fail
 go_ret
 exact⟨rfl,HB2.out⟩

end Go.Proofs.YtcoimjbhoiipoaaGreatDoor.tre
