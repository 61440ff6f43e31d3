import Derived.Test.YtkjpgheealfedaaGreatDoorJXC
set_option maxHeartbeats 12800000
set_option maxRecDepth 100000
open Go.Lib (hid)
open Go.Proofs.Tryz
namespace Go.Proofs.YtkjpgheealfedaaGreatDoor.wlk
open Go.RowKit words ext name tre stk Go.Proofs.YtkjpgheealfedaaGreatDoor.seen

theorem Hopped.base {g:Nat} {ts:List Tg} {ps:List ByteArray} {f:Bool} {h:Nat} {x:ByteArray} {w w1 w':World} {e:Ending} (H:Hopped g ts ps f h x w1 e w') (hb:Below w.heap.size w w1):Hopped g ts ps f h x w e w':=by
 rcases H with⟨h1,h2,h3⟩ |⟨h1,h2,h3,h4⟩ |⟨h1,Q,h2,h3,h4,h5⟩
 ·exact .inl ⟨h1,h2,hb.trans (h3.mono hb.size)⟩
 ·exact .inr (.inl ⟨h1,h2,h3,hb.trans (h4.mono hb.size)⟩)
 ·exact .inr (.inr ⟨h1,Q,h2,h3,h4,(Tur.below hb).trans h5⟩)
def Entered (g:Nat) (ts:List Tg) (t:Tg) (p:ByteArray) (ps:List ByteArray) (f:Bool) (h:Nat) (K l i:Int) (Q:List (Nat×Nat)) (w:World) (e:Ending) (w':World):Prop:=
 e= .returned (.int .i64 0)∧Wkr w' g ((ts++[t]++[(⟨childS t.S p,K,l,i,Q⟩:Tg)]).take (upK (ts.length+2) ps)) (restP ps) f h∧Tur g w w'
def Told (g:Nat) (ts:List Tg) (t:Tg) (p:ByteArray) (ps:List ByteArray) (f:Bool) (h:Nat) (K l i:Int) (Q:List (Nat×Nat)) (there:Bool) (x:ByteArray) (w:World) (e:Ending) (w':World):Prop:=
 if there=false then e= .returned (.int .i64 2)∧Below w.heap.size w w'
 else if K=2 then Entered g ts t p ps f h K l i Q w e w'
 else if K=3∧(f=true∨0<ps.length) then Hopped g (ts++[t]) ps f h x w e w'
 else if 0<ps.length then e= .returned (.int .i64 3)∧Below w.heap.size w w'
 else Entered g ts t p ps f h K l i Q w e w'
section
variable {g:Nat} {ts:List Tg} {t:Tg} {p:ByteArray} {ps:List ByteArray} {f:Bool} {h:Nat} {K l i:Int} {Q:List (Nat×Nat)} {x:ByteArray} {w w':World} {e:Ending}
theorem Told.away (H:e= .returned (.int .i64 2)∧Below w.heap.size w w'):Told g ts t p ps f h K l i Q false x w e w':=by
 unfold Told;rw [if_pos rfl];exact H
theorem Told.dir (H:Entered g ts t p ps f h 2 l i Q w e w'):Told g ts t p ps f h 2 l i Q true x w e w':=by
 unfold Told;rw [if_neg (by decide),if_pos rfl];exact H
theorem Told.hop (h1:f=true∨0<ps.length) (H:Hopped g (ts++[t]) ps f h x w e w'):Told g ts t p ps f h 3 l i Q true x w e w':=by
 unfold Told;rw [if_neg (by decide),if_neg (by decide),if_pos ⟨rfl,h1⟩];exact H
theorem Told.not (h1:K≠2) (h2:¬(K=3∧(f=true∨0<ps.length))) (h3:0<ps.length) (H:e= .returned (.int .i64 3)∧Below w.heap.size w w'):Told g ts t p ps f h K l i Q true x w e w':=by
 unfold Told;rw [if_neg (by decide),if_neg h1,if_neg h2,if_pos h3];exact H
theorem Told.in_ (h1:K≠2) (h2:¬(K=3∧(f=true∨0<ps.length))) (h3:¬0<ps.length) (H:Entered g ts t p ps f h K l i Q w e w'):Told g ts t p ps f h K l i Q true x w e w':=by
 unfold Told;rw [if_neg (by decide),if_neg h1,if_neg h2,if_neg h3];exact H
end
theorem Jh3 (w:World) (g:Nat) (ts:List Tg) (t:Tg) (p:ByteArray) (ps:List ByteArray) (f:Bool) (h:Nat) (K l i:Int) (Q:List (Nat×Nat)) (A:Option Addr) (c:Nat) (there:Bool) (x:ByteArray) (m:Int) (hw:Wkr w g (ts++[t]) (p::ps) f h) (hp:Plc w w.heap.size A Q) (hz:A=none→Q.length=0∧c=0)
  (hm:w.cell? ⟨0,0,none⟩=some (.int .i64 m)) (hx:x.size≤1000000000) (hq:Q.length≤1000) (hl:ts.length≤1000000) (h1:t.S.size≤1000000000) (h2:p.size≤1000000000) (hps:ps.length≤1000000)
  (hqs:∀Q:List ByteArray,parts x.data.toList=some (Q.map fun y=>y.data.toList)→Q.length≤1000000) (hh:h≤1000000):
  Calls prog 30 #[.pointer (some ⟨g,0,none⟩),.agg #[.int .i64 K,.int .i64 l,.int .i64 i,.slice A Q.length c],.bool there,.string x] w (Told g ts t p ps f h K l i Q there x w):=by
 obtain⟨W1,hW1⟩:=words.nm (w.alloc (.cells #[.int .i64 K,.int .i64 l,.int .i64 i,.slice A Q.length c] 37));have hb1:=words.b1 hW1;have hk1:W1.heap[w.heap.size]?=some (.cells #[.int .i64 K,.int .i64 l,.int .i64 i,.slice A Q.length c] 37 (0,0)):=by rw [hW1];exact heap_alloc_new w _
 have k0:=Jaa hk1 0;have k1:=Jaa hk1 1;have k2:=Jaa hk1 2;have k3:=Jaa hk1 3;have hw1:=hw.later hb1;obtain⟨A0,c0,Ap,cp,hg,_,hcp,_,_⟩:=hw1.ex;rw [List.length_cons] at hg hcp;have y1:W1.cell? ⟨g,1,none⟩=some (.slice Ap (ps.length+1) cp):=Jaa hg 1;have y2:W1.cell? ⟨g,2,none⟩=some (.bool f):=Jaa hg 2;have HHop:=hid ((Jsn W1 g (ts++[t]) p ps f h x m hw1 (Jae hm hb1) hx (by simp) (by rw [List.length_append];show ts.length+1≤1000000000;omega) hps hqs hh).mono fun e w' H=>H.base hb1);have HWk:=hid hw1;have HPl:=hid ((hp.keep hb1).more hb1.size);have HZ:=hid hz;have HL:=hid (And.intro hq (And.intro hl (And.intro h1 h2)));have HB1:=hid hb1;have HW1:=hid hW1;have l0:¬((ps.length:Int)+1=0):=by omega
 clear hW1 hb1 hk1 hw1 hg hcp hw hp hz hm hx hq hl h1 h2 hqs hh;rcases there with _ |_
 ·go_enter func30,ntmps30
  go_upto_region 2 with fail
  rw [←HW1.out];go_wp2_with fail
  go_ret
  exact Told.away ⟨rfl,HB1.out⟩
 ·by_cases e2:K=2
  ·subst e2
   go_enter func30,ntmps30
   go_upto_region 2 with fail
   rw [←HW1.out];have HEn:=hid (Jft W1 g ts t p ps f h 2 l i Q A c HWk.out HPl.out HZ.out HL.out.1 HL.out.2.1 HL.out.2.2.1 HL.out.2.2.2);go_wp2_with fail
   refine HEn.out.mono ?_;rintro e w2 ⟨⟨u,rfl⟩,hk2,ht2⟩;have HF:=hid (And.intro hk2 ((Tur.below HB1.out).trans ht2));clear hk2 ht2 HEn;go_wp2_with fail
   go_ret
   exact Told.dir ⟨rfl,HF.out⟩
  ·by_cases e3:K=3∧(f=true∨0<ps.length)
   ·obtain⟨rfl,hf⟩:=e3
    have HTo:=hid hf;rcases f with _ |_
    ·have l1:(1:Int)<(ps.length:Int)+1:=by
      rcases hf with hf |hf
      ·cases hf
      ·omega
     clear hf e2;go_enter func30,ntmps30
     go_upto_region 2 with fail
     rw [←HW1.out];go_wp2_with fail
     refine HHop.out.mono ?_;intro e w2 hH;obtain⟨u,hu⟩:∃u,e= .returned u:=by rcases hH with⟨_,h,_⟩ |⟨_,_,h,_⟩ |⟨_,_,_,h,_⟩<;>exact⟨_,h⟩
     subst hu;have HF:=hid hH;clear hH;go_wp2_with fail
     go_ret
     exact Told.hop HTo.out HF.out
    ·clear hf e2
     go_enter func30,ntmps30
     go_upto_region 2 with fail
     rw [←HW1.out];go_wp2_with fail
     refine HHop.out.mono ?_;intro e w2 hH;obtain⟨u,hu⟩:∃u,e= .returned u:=by rcases hH with⟨_,h,_⟩ |⟨_,_,h,_⟩ |⟨_,_,_,h,_⟩<;>exact⟨_,h⟩
     subst hu;have HF:=hid hH;clear hH;go_wp2_with fail
     go_ret
     exact Told.hop (.inl rfl) HF.out
   ·have HE2:=hid e2
    have HE3:=hid e3;by_cases e4:0<ps.length
    ·have HE4:=hid e4
     have e5:¬K=3:=fun h=>e3 ⟨h,.inr e4⟩;have l1:(1:Int)<(ps.length:Int)+1:=by omega
     clear e3 e4;go_enter func30,ntmps30
     go_upto_region 2 with fail
     rw [←HW1.out];go_wp2_with fail
     go_ret
     exact Told.not HE2.out HE3.out HE4.out ⟨rfl,HB1.out⟩
    ·have HE4:=hid e4
     obtain rfl:ps=[]:=List.eq_nil_of_length_eq_zero (by omega);by_cases e5:K=3
     ·subst e5
      have hf:f=false:=by
       rcases f with _ |_
       ·rfl
       ·exact absurd ⟨rfl,.inl rfl⟩ e3
      subst hf;clear e3 e4;go_enter func30,ntmps30
      go_upto_region 2 with fail
      rw [←HW1.out];have HEn:=hid (Jft W1 g ts t p [] false h 3 l i Q A c HWk.out HPl.out HZ.out HL.out.1 HL.out.2.1 HL.out.2.2.1 HL.out.2.2.2);go_wp2_with fail
      refine HEn.out.mono ?_;rintro e w2 ⟨⟨u,rfl⟩,hk2,ht2⟩;have HF:=hid (And.intro hk2 ((Tur.below HB1.out).trans ht2));clear hk2 ht2 HEn;go_wp2_with fail
      go_ret
      exact Told.in_ HE2.out (fun h=>by rcases h.2 with h |h<;>cases h) HE4.out ⟨rfl,HF.out⟩
     ·clear e3 e4
      go_enter func30,ntmps30
      go_upto_region 2 with fail
      rw [←HW1.out];have HEn:=hid (Jft W1 g ts t p [] f h K l i Q A c HWk.out HPl.out HZ.out HL.out.1 HL.out.2.1 HL.out.2.2.1 HL.out.2.2.2);go_wp2_with fail
      refine HEn.out.mono ?_;rintro e w2 ⟨⟨u,rfl⟩,hk2,ht2⟩;have HF:=hid (And.intro hk2 ((Tur.below HB1.out).trans ht2));clear hk2 ht2 HEn;go_wp2_with fail
      go_ret
      exact Told.in_ HE2.out HE3.out HE4.out ⟨rfl,HF.out⟩

theorem join_nil (w:World):Calls prog 129 #[.slice none 0 0,.string ⟨#[47]⟩] w fun e w'=>e= .returned (.string ⟨#[]⟩)∧w=w':=by
 go_enter func129,ntmps129
 go_wp2_with fail
 go_ret
 exact⟨rfl,rfl⟩
theorem Jm2:(⟨#[47]⟩:ByteArray)++⟨#[]⟩=⟨#[47]⟩:=by decide
theorem Joc (w:World):Calls prog 97 #[.slice none 0 0] w fun e w'=>e= .returned (.string ⟨#[47]⟩)∧w=w':=by
 obtain⟨r,hr⟩:∃r:ByteArray,r=⟨#[]⟩:=⟨_,rfl⟩
 have HJ:=join_nil w;rw [←hr] at HJ;have HJ:=hid HJ;have HR:=hid (show (⟨#[47]⟩:ByteArray)++r=⟨#[47]⟩ by rw [hr];exact Jm2);have HS:=hid (show r.size≤1000 by rw [hr];decide);clear hr;go_enter func97,ntmps97
 go_wp2_with fail
 refine HJ.out.mono ?_;rintro e w1 ⟨rfl,rfl⟩;have hrs:r.size≤1000:=HS.out;go_wp2_with fail
 go_ret
 exact⟨by rw [HR.out];rfl,rfl⟩
def topT (Q:List (Nat×Nat)):Tg:=⟨⟨#[47]⟩,2,(((Q.head?.getD (0,0)).1:Nat):Int),(((Q.head?.getD (0,0)).2:Nat):Int),Q⟩
theorem Jrm (w:World) (A:Option Addr) (c:Nat) (QQ:List (Nat×Nat)) (hp:Plc w w.heap.size A QQ) (hz:A=none→QQ.length=0∧c=0) (hq:QQ.length≤1000):
  Calls prog 59 #[.slice A QQ.length c] w (Tgt (topT QQ) w):=by
 obtain⟨W1,hW1⟩:=words.nm (w.alloc (.cells #[.string ⟨#[]⟩,.int .i64 0,.int .i64 0,.int .i64 0,.slice none 0 0] 39));have hb1:=words.b1 hW1;have hx1:W1.heap[w.heap.size]?=some (.cells #[.string ⟨#[]⟩,.int .i64 0,.int .i64 0,.int .i64 0,.slice none 0 0] 39 (0,0)):=by rw [hW1];exact heap_alloc_new w _
 have HC:=hid (Jff A c QQ W1 ((hp.keep hb1).more hb1.size) hz hq);have HPl:=hid hp;have HX1:=hid hx1;have HB1:=hid hb1;have HW1:=hid hW1;clear hW1 hb1 hx1 hp hz;go_enter func59,ntmps59
 go_upto_region 1 with fail
 rw [←HW1.out];clear HW1;go_wp2_with fail
 refine (Joc W1).mono ?_;rintro e w2 ⟨rfl,rfl⟩;go_wp2_with fail
 refine HC.out.mono ?_;rintro e w3 ⟨⟨A3,c3,rfl,hp3,hc3,hz3,hhi⟩,hb3⟩;obtain⟨W4,hW4⟩:=words.nm (w3.alloc (.cells #[.string ⟨#[47]⟩,.int .i64 2,.int .i64 0,.int .i64 0,.slice A3 QQ.length c3] 39));have hb4:Below w3.heap.size w3 W4:=words.b1 hW4;have hg4:W4.heap[w3.heap.size]?=some (.cells #[.string ⟨#[47]⟩,.int .i64 2,.int .i64 0,.int .i64 0,.slice A3 QQ.length c3] 39 (0,0)):=by rw [hW4];exact heap_alloc_new w3 _
 have hx3:=(hb3.block _ (lt_of_some HX1.out)).trans HX1.out;have hx4:=(hb4.block _ (lt_of_some hx3)).trans hx3;have hb03:=HB1.out.trans (hb3.mono HB1.out.size);have hb04:=hb03.trans (hb4.mono hb03.size);have hne:w.heap.size<w3.heap.size:=lt_of_some hx3;have HNe:=hid hne;have hk04:∀b,b≠w3.heap.size→b<w3.heap.size→W4.heap[b]?=w3.heap[b]?:=fun b _ h=>hb4.block b h;have HP3:=hid hp3;have HHi:Hid (∀b o fr,A3=some ⟨b,o,fr⟩→w.heap.size<b):=hid fun b o fr h=>by
  have h1:=hhi b o fr h;have h2:=lt_of_some HX1.out;omega
 have HC3:=hid (And.intro hc3 hz3);rcases QQ with _ |⟨q,Q'⟩
 ·have hgX:=hg4
  have hxX:=hx4;have hBX:=hb04;have hkX:=hk04;have hzX:=hb4.size;have HW4:=hid (show W4=w3.alloc (.cells #[.string ⟨#[47]⟩,.int .i64 2,.int .i64 0,.int .i64 0,.slice A3 0 c3] 39) from hW4);clear hg4 hx4 hb04 hk04 hp3 hhi hc3 hz3 hW4 hb4 hb3 hb03 hx3 HC hne hq;obtain⟨Wd,hWd⟩:=words.nm (set5 W4 w.heap.size (.string ⟨#[47]⟩) (.int .i64 2) (.int .i64 0) (.int .i64 0) (.slice A3 0 c3));have hob:Wd.heap[w.heap.size]?=some (.cells #[.string ⟨#[47]⟩,.int .i64 2,.int .i64 0,.int .i64 0,.slice A3 0 c3] 39 (0,0)):=by rw [hWd];exact over5 hxX
  have hBd:Below w.heap.size w Wd:=by rw [hWd];exact below5 hBX (Nat.le_refl _) _ _ _ _ _
  have hblk:∀b,b≠w3.heap.size→b≠w.heap.size→b<w3.heap.size→Wd.heap[b]?=w3.heap[b]?:=fun b h1 h2 h3=>by
   rw [hWd];unfold set5;rw [heap_setCell_other _ _ _ _ h2,heap_setCell_other _ _ _ _ h2,heap_setCell_other _ _ _ _ h2,heap_setCell_other _ _ _ _ h2,heap_setCell_other _ _ _ _ h2];exact hkX b h1 h3
  have hsz:w3.heap.size≤Wd.heap.size:=by rw [hWd];simpa [set5] using hzX
  have hplc:Plc Wd Wd.heap.size A3 []:=fun i x hx=>by
   obtain⟨b,off,h1,h2,h3,h4⟩:=HP3.out i x hx;have h5:=HHi.out _ _ _ h1;have h6:=HNe.out;have e:=hblk b (by omega) (by omega) h2;exact⟨b,off,h1,Nat.lt_of_lt_of_le h2 hsz,(World.cell?_of_block e).trans h3,(World.cell?_of_block e).trans h4⟩
  have q0:=Jaa hgX 0;have q1:=Jaa hgX 1;have q2:=Jaa hgX 2;have q3:=Jaa hgX 3;have q4:=Jaa hgX 4;have z0:=Jaa hxX 0;have z1:=Jaa hxX 1;have z2:=Jaa hxX 2;have z3:=Jaa hxX 3;have z4:=Jaa hxX 4;have n0:=Jab hxX 0;have n1:=Jab hxX 1;have n2:=Jab hxX 2;have n3:=Jab hxX 3;have n4:=Jab hxX 4;have p0:=Jaa hob 0;have p1:=Jaa hob 1;have p2:=Jaa hob 2;have p3:=Jaa hob 3;have p4:=Jaa hob 4;have HF:Hid (Tgt (topT []) w (.returned (.agg #[.string ⟨#[47]⟩,.int .i64 2,.int .i64 0,.int .i64 0,.slice A3 0 c3])) Wd):=hid ⟨⟨A3,c3,rfl,hplc,HC3.out.1,HC3.out.2⟩,hBd⟩;unfold set5 at hWd;have HWd:=hid hWd;clear hWd hob hBd hblk hsz hplc hxX hBX hkX hzX hgX;go_upto_region 2 with fail
  rw [←HW4.out];clear HW4;go_wp2_with fail
  rw [←HWd.out];exact bodyPost_ret (v:= .agg #[.string ⟨#[47]⟩,.int .i64 2,.int .i64 0,.int .i64 0,.slice A3 0 c3]) (by simp [results,results59,go_sem,p0,p1,p2,p3,p4]) rfl HF.out
 ·obtain⟨b,off,hA,hb,c0,c1⟩:=HPl.out 0 q rfl
  rw [Nat.zero_mul,Nat.add_zero] at c0 c1;subst hA;have x0:W4.cell? ⟨b,off,none⟩=some (.int .i64 (q.1:Int)):=(hb04.cell (p:=⟨b,off,none⟩) hb).trans c0;have x1:W4.cell? ⟨b,off+1,none⟩=some (.int .i64 (q.2:Int)):=(hb04.cell (p:=⟨b,off+1,none⟩) hb).trans c1;have y2:=Jaa hg4 2;have y3:=Jaa hg4 3;have f2:=Jab hg4 2;have f3:=Jab hg4 3;obtain⟨W5,hW5⟩:=words.nm ((W4.setCell ⟨w3.heap.size,2,none⟩ (.int .i64 (q.1:Int))).setCell ⟨w3.heap.size,3,none⟩ (.int .i64 (q.2:Int)));have hgX:W5.heap[w3.heap.size]?=some (.cells #[.string ⟨#[47]⟩,.int .i64 2,.int .i64 (q.1:Int),.int .i64 (q.2:Int),.slice A3 (Q'.length+1) c3] 39 (0,0)):=by
   rw [hW5,heap_setCell_same _ w3.heap.size 3 _ _ (.int .i64 (q.2:Int)) (heap_setCell_same W4 w3.heap.size 2 _ _ (.int .i64 (q.1:Int)) hg4)];rfl
  have hxX:W5.heap[w.heap.size]?=some (.cells #[.string ⟨#[]⟩,.int .i64 0,.int .i64 0,.int .i64 0,.slice none 0 0] 39 (0,0)):=by
   rw [hW5];exact (heap_setCell_other _ _ _ _ (Nat.ne_of_lt hne)).trans ((heap_setCell_other _ _ _ _ (Nat.ne_of_lt hne)).trans hx4)
  have hBX:Below w.heap.size w W5:=by rw [hW5];exact (hb04.setCell (p:=⟨w3.heap.size,2,none⟩) (Nat.le_of_lt hne) _).setCell (p:=⟨w3.heap.size,3,none⟩) (Nat.le_of_lt hne) _
  have hkX:∀b,b≠w3.heap.size→b<w3.heap.size→W5.heap[b]?=w3.heap[b]?:=fun b h1 h2=>by
   rw [hW5];exact (heap_setCell_other _ _ _ _ h1).trans ((heap_setCell_other _ _ _ _ h1).trans (hk04 b h1 h2))
  have hzX:w3.heap.size≤W5.heap.size:=by rw [hW5];simpa [World.setCell] using hb4.size
  have HW5:=hid hW5;have HW4:=hid (show W4=w3.alloc (.cells #[.string ⟨#[47]⟩,.int .i64 2,.int .i64 0,.int .i64 0,.slice A3 (Q'.length+1) c3] 39) from hW4);have l0:(0:Int)<(Q'.length:Int)+1:=by omega
  clear hg4 hx4 hb04 hk04 hp3 hhi hc3 hz3 hW4 hb4 hb3 hb03 hx3 HC hne hq hW5 c0 c1 hb;obtain⟨Wd,hWd⟩:=words.nm (set5 W5 w.heap.size (.string ⟨#[47]⟩) (.int .i64 2) (.int .i64 (q.1:Int)) (.int .i64 (q.2:Int)) (.slice A3 (Q'.length+1) c3));have hob:Wd.heap[w.heap.size]?=some (.cells #[.string ⟨#[47]⟩,.int .i64 2,.int .i64 (q.1:Int),.int .i64 (q.2:Int),.slice A3 (Q'.length+1) c3] 39 (0,0)):=by rw [hWd];exact over5 hxX
  have hBd:Below w.heap.size w Wd:=by rw [hWd];exact below5 hBX (Nat.le_refl _) _ _ _ _ _
  have hblk:∀b,b≠w3.heap.size→b≠w.heap.size→b<w3.heap.size→Wd.heap[b]?=w3.heap[b]?:=fun b h1 h2 h3=>by
   rw [hWd];unfold set5;rw [heap_setCell_other _ _ _ _ h2,heap_setCell_other _ _ _ _ h2,heap_setCell_other _ _ _ _ h2,heap_setCell_other _ _ _ _ h2,heap_setCell_other _ _ _ _ h2];exact hkX b h1 h3
  have hsz:w3.heap.size≤Wd.heap.size:=by rw [hWd];simpa [set5] using hzX
  have hplc:Plc Wd Wd.heap.size A3 (q::Q'):=fun i x hx=>by
   obtain⟨b,off,h1,h2,h3,h4⟩:=HP3.out i x hx;have h5:=HHi.out _ _ _ h1;have h6:=HNe.out;have e:=hblk b (by omega) (by omega) h2;exact⟨b,off,h1,Nat.lt_of_lt_of_le h2 hsz,(World.cell?_of_block e).trans h3,(World.cell?_of_block e).trans h4⟩
  have q0:=Jaa hgX 0;have q1:=Jaa hgX 1;have q2:=Jaa hgX 2;have q3:=Jaa hgX 3;have q4:=Jaa hgX 4;have z0:=Jaa hxX 0;have z1:=Jaa hxX 1;have z2:=Jaa hxX 2;have z3:=Jaa hxX 3;have z4:=Jaa hxX 4;have n0:=Jab hxX 0;have n1:=Jab hxX 1;have n2:=Jab hxX 2;have n3:=Jab hxX 3;have n4:=Jab hxX 4;have p0:=Jaa hob 0;have p1:=Jaa hob 1;have p2:=Jaa hob 2;have p3:=Jaa hob 3;have p4:=Jaa hob 4;have HF:Hid (Tgt (topT (q::Q')) w (.returned (.agg #[.string ⟨#[47]⟩,.int .i64 2,.int .i64 (q.1:Int),.int .i64 (q.2:Int),.slice A3 (Q'.length+1) c3])) Wd):=hid ⟨⟨A3,c3,rfl,hplc,HC3.out.1,HC3.out.2⟩,hBd⟩;unfold set5 at hWd;have HWd:=hid hWd;clear hWd hob hBd hblk hsz hplc hxX hBX hkX hzX hgX;go_upto_region 2 with fail
  rw [←HW4.out];clear HW4;go_upto_region 4 with fail
  rw [←HW5.out];clear y2 y3 f2 f3 x0 x1;go_wp2_with fail
  rw [←HWd.out];exact bodyPost_ret (v:= .agg #[.string ⟨#[47]⟩,.int .i64 2,.int .i64 (q.1:Int),.int .i64 (q.2:Int),.slice A3 (Q'.length+1) c3]) (by simp [results,results59,go_sem,p0,p1,p2,p3,p4]) rfl HF.out

def Newly (Q:List (Nat×Nat)) (x:ByteArray) (f:Bool) (w:World) (e:Ending) (w':World):Prop:=
 ((parts x.data.toList=none∧e= .returned (.tuple #[.pointer none,.int .i64 1]))∨
   ∃(P:List ByteArray) (g:Nat),parts x.data.toList=some (P.map fun y=>y.data.toList)∧e= .returned (.tuple #[.pointer (some ⟨g,0,none⟩),.int .i64 0])∧w.heap.size≤g∧Wkr w' g ([topT Q].take (upK 1 P)) (restP P) f 0)∧Below w.heap.size w w'
theorem Jqn (w:World) (A:Option Addr) (c:Nat) (Q:List (Nat×Nat)) (x:ByteArray) (f:Bool) (m:Int) (hp:Plc w w.heap.size A Q) (hz:A=none→Q.length=0∧c=0) (hq:Q.length≤1000) (hm:w.cell? ⟨0,0,none⟩=some (.int .i64 m)) (hx:x.size≤1000000000):
  Calls prog 26 #[.slice A Q.length c,.string x,.bool f] w (Newly Q x f w):=by
 have HS:=hid (Jfz x m w (by omega) hm);obtain⟨t,ht⟩:=words.nm (topT Q);have HTp:Hid (∀w1,Below w.heap.size w w1→Calls prog 59 #[.slice A Q.length c] w1 (Tgt t w1)):=hid fun w1 hb=>by
  rw [ht];exact Jrm w1 A c Q ((hp.keep hb).more hb.size) hz hq
 have HT:=hid ht;clear ht hp hz hm hx;go_enter func26,ntmps26
 go_wp2_with fail
 refine HS.out.mono ?_;rintro e w1 ⟨(⟨hpn,rfl⟩ |⟨v,P,hpa,rfl,hown⟩),hb1⟩
 ·have HF:=hid (And.intro hpn hb1)
  clear hpn hb1;go_wp2_with fail
  go_ret2
  exact⟨.inl ⟨HF.out.1,rfl⟩,HF.out.2⟩
 ·obtain⟨As,cs,rfl,hcs,_⟩:=tre.own_facts hown
  have HPa:=hid hpa;have HR1:=hid (Jaz hown);have HC1:=hid hcs;have HB1:=hid hb1;clear hpa hown hcs hb1;go_wp2_with fail
  refine (HTp.out w1 HB1.out).mono ?_;rintro e w2 ⟨⟨A2,c2,rfl,hp2,hc2,hz2⟩,hb2⟩;unfold tgV;obtain⟨W3,hW3⟩:=words.nm (w2.alloc (.cells #[.string t.S,.int .i64 t.K,.int .i64 t.l,.int .i64 t.i,.slice A2 t.Q.length c2] 39));have hb3:Below w2.heap.size w2 W3:=words.b1 hW3;have hk3:W3.heap[w2.heap.size]?=some (.cells #[.string t.S,.int .i64 t.K,.int .i64 t.l,.int .i64 t.i,.slice A2 t.Q.length c2] 39 (0,0)):=by rw [hW3];exact heap_alloc_new w2 _
  obtain⟨W4,hW4⟩:=words.nm (W3.alloc (.cells #[.slice (some ⟨w2.heap.size,0,none⟩) 1 1,.slice none 0 0,.bool f,.int .i64 0] 144));have hb4:Below W3.heap.size W3 W4:=words.b1 hW4;have hg4:W4.heap[W3.heap.size]?=some (wkC (.slice (some ⟨w2.heap.size,0,none⟩) [t].length 1) (.slice none 0 0) f ((0:Nat):Int)):=by rw [hW4];exact heap_alloc_new W3 _
  have hk4:=(hb4.block _ (lt_of_some hk3)).trans hk3;have hb24:=hb3.trans (hb4.mono hb3.size);have hb14:=hb2.trans (hb24.mono hb2.size);have hb04:=HB1.out.trans (hb14.mono HB1.out.size);have hp4:=(hp2.keep hb24).more hb24.size;have hw4:Way W4 W4.heap.size (some ⟨w2.heap.size,0,none⟩) [t]:=fun k z hk=>by
   rcases k with _ |k
   ·obtain rfl:t=z:=by simpa using hk
    exact⟨_,0,A2,c2,rfl,lt_of_some hk4,Jaa hk4 0,Jaa hk4 1,Jaa hk4 2,Jaa hk4 3,Jaa hk4 4,hp4,hc2,hz2⟩
   ·simp at hk
  have hr4:=(HR1.out.keep hb14).more hb14.size;have hsz:w.heap.size≤W3.heap.size:=by have h1:=HB1.out.size;have h2:=hb2.size;have h3:=hb3.size;omega
  have hz3:W3.heap.size=w2.heap.size+1:=by rw [hW3];simp
  have hgo:=(Jfc W4 W3.heap.size (some ⟨w2.heap.size,0,none⟩) none As 1 0 0 cs [t] P f 0 hg4 (Nat.le_refl _) HC1.out hw4 hr4 (Nat.le_refl _) (show 1≤1000000000 by decide))
  rw [hz3] at hgo hsz;have HGo:=hid hgo;have HB4:=hid hb04;have HSz:=hid hsz;have HW3:=hid hW3;have HW4:=hid hW4;clear hp2 hc2 hz2 hb2 hW3 hb3 hk3 hW4 hb4 hg4 hk4 hb24 hb14 hb04 hp4 hw4 hr4 hsz hz3 hgo;go_upto_region 5 with fail
  rw [←HW3.out,←HW4.out];go_wp2_with fail
  refine HGo.out.mono ?_;rintro e w5 ⟨⟨u,rfl⟩,hk5,ht5⟩;rw [HT.out] at hk5;have HF:=hid (And.intro hk5 (HB4.out.trans (ht5.low HSz.out HB4.out.size)));have HG:=hid HSz.out;clear hk5 ht5;go_wp2_with fail
  go_ret2
  exact⟨.inr ⟨P,_,HPa.out,rfl,HG.out,HF.out.1⟩,HF.out.2⟩

def noT:Tg:=⟨⟨#[]⟩,0,0,0,[]⟩
end Go.Proofs.YtkjpgheealfedaaGreatDoor.wlk
