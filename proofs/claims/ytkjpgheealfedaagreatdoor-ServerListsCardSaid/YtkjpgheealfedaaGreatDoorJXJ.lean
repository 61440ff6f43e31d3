import Derived.Test.YtkjpgheealfedaaGreatDoorJXI
set_option maxHeartbeats 25600000
set_option maxRecDepth 100000
open Go.Lib (hid)
open Go.Proofs.Tryz
namespace Go.Proofs.YtkjpgheealfedaaGreatDoor.wlk
open Go.RowKit words ext name tre stk Go.Proofs.YtkjpgheealfedaaGreatDoor.seen
theorem Jsv (w:World) (g:Nat) (ts:List Tg) (f:Bool) (h:Nat) (hw:Wkr w g ts [] f h):
  Calls prog 27 #[.pointer (some ⟨g,0,none⟩)] w fun e w'=>e= .returned (.tuple #[.string ⟨#[]⟩,.slice none 0 0,.string ⟨#[]⟩,.bool false])∧Below w.heap.size w w':=by
 obtain⟨A,c,Ap,cp,hg,_,_,_,_⟩:=hw.ex;have v1:w.cell? ⟨g,1,none⟩=some (.slice Ap 0 cp):=Jaa hg 1;clear hw hg;go_enter func27,ntmps27
 go_wp2_with fail
 exact bodyPost_ret (v:= .tuple #[.string ⟨#[]⟩,.slice none 0 0,.string ⟨#[]⟩,.bool false]) (by simp [results,results27,go_sem]) rfl ⟨rfl,Below.refl _ _⟩
def Asked (t:Tg) (p:ByteArray) (w:World) (e:Ending) (w':World):Prop:=(∃A c,e= .returned (.tuple #[.string t.S,.slice A t.Q.length c,.string p,.bool true])∧Plc w' w'.heap.size A t.Q∧t.Q.length≤c∧(A=none→t.Q.length=0∧c=0))∧Below w.heap.size w w'
theorem Jsr (w:World) (g:Nat) (ts:List Tg) (t:Tg) (p:ByteArray) (ps:List ByteArray) (f:Bool) (h:Nat) (hw:Wkr w g (ts++[t]) (p::ps) f h) (hl:ts.length≤1000000000) (hq:t.Q.length≤1000):
  Calls prog 27 #[.pointer (some ⟨g,0,none⟩)] w (Asked t p w):=by
 have HA:=hid (Jnh w g ts t (p::ps) f h hw hl);obtain⟨A,c,Ap,cp,hg,_,_,_,hrow⟩:=hw.ex;have v1:w.cell? ⟨g,1,none⟩=some (.slice Ap (ps.length+1) cp):=Jaa hg 1;obtain⟨b,off,hAp,hb,x0⟩:=hrow 0 p rfl;rw [Nat.add_zero] at x0;subst hAp;have n0:((ps.length:Int)+1==0)=false:=by rw [beq_eq_false_iff_ne];omega
 have l0:(0:Int)<(ps.length:Int)+1:=by omega
 have HG:=hid hg;have HX:=hid (And.intro hb x0);clear hw hg hrow hb x0;go_enter func27,ntmps27
 go_wp2_with fail
 refine HA.out.mono ?_;rintro e w1 ⟨⟨A1,c1,rfl,hp1,hc1,hz1⟩,hb1⟩;unfold tgV;obtain⟨W2,hW2⟩:=words.nm (w1.alloc (.cells #[.string t.S,.int .i64 t.K,.int .i64 t.l,.int .i64 t.i,.slice A1 t.Q.length c1] 39));have hb2:Below w1.heap.size w1 W2:=words.b1 hW2;have hk2:W2.heap[w1.heap.size]?=some (.cells #[.string t.S,.int .i64 t.K,.int .i64 t.l,.int .i64 t.i,.slice A1 t.Q.length c1] 39 (0,0)):=by rw [hW2];exact heap_alloc_new w1 _
 have hb02:=hb1.trans (hb2.mono hb1.size);have HK2:=hid hk2;have HP:=hid (Jff A1 c1 t.Q);have HP2:=hid ((hp1.keep hb2).more hb2.size);have HZ:=hid hz1;have HB2:=hid hb02;have J1:Hid (∀w':World,Below W2.heap.size W2 w'→Calls prog 62 #[.slice A1 t.Q.length c1] w' fun e w''=>(∃A c,e= .returned (.slice A t.Q.length c)∧Plc w'' w''.heap.size A t.Q∧t.Q.length≤c∧(A=none→t.Q.length=0∧c=0))∧Below W2.heap.size W2 w''):=hid fun w' hb=>(HP.out w' ((HP2.out.keep hb).more hb.size) HZ.out hq).mono fun e w'' ⟨⟨A,c,h1,h3,h4,h5,_⟩,h2⟩=>⟨⟨A,c,h1,h3,h4,h5⟩,hb.trans (h2.mono hb.size)⟩
 have hS0:∀w':World,Below W2.heap.size W2 w'→(w'.cell? ⟨w1.heap.size,0,none⟩=some (.string t.S)∧w'.cell? ⟨w1.heap.size,4,none⟩=some (.slice A1 t.Q.length c1)∧w'.cell? ⟨g,1,none⟩=some (.slice (some ⟨b,off,none⟩) (ps.length+1) cp)∧w'.cell? ⟨b,off,none⟩=some (.string p)∧Below W2.heap.size W2 w'):=fun w' hb'=>by
  have e1:=(hb'.block _ (lt_of_some HK2.out)).trans HK2.out;have hbw:=HB2.out.trans (hb'.mono HB2.out.size);have e2:=(hbw.block _ (lt_of_some HG.out)).trans HG.out;exact⟨Jaa e1 0,Jaa e1 4,Jaa e2 1,(hbw.cell (p:=⟨b,off,none⟩) HX.out.1).trans HX.out.2,hb'⟩
 have HSS:=hid hS0;have HBv:Hid (Below W2.heap.size W2 W2.drew):=hid (Below.refl _ _).drew;have HW2:=hid hW2;clear hp1 hc1 hz1 hb1 hW2 hb2 hk2 hb02 hS0 HA v1;go_upto_region 4 with fail
 rw [←HW2.out];clear HW2;refine wp_region_held_drew (S:=fun w'=>(w'.cell? ⟨w1.heap.size,0,none⟩=some (.string t.S)∧w'.cell? ⟨w1.heap.size,4,none⟩=some (.slice A1 t.Q.length c1)∧w'.cell? ⟨g,1,none⟩=some (.slice (some ⟨b,off,none⟩) (ps.length+1) cp)∧w'.cell? ⟨b,off,none⟩=some (.string p)∧Below W2.heap.size W2 w')) (by kernel_rfl) (HSS.out _ HBv.out) (fun hHeld=>?_);refine words.tk 0 15 (v:=?_) ?_ ?_
 rotate_left 1
 ·intro _ h;(try dsimp only at h);go_simp;(try with_reducible rfl)
 try simp only [words.pt]
 refine words.tk 1 16 (v:=?_) ?_ ?_
 rotate_left 1
 ·intro _ h;(try dsimp only at h);go_simp;(try with_reducible rfl)
 try simp only [words.pt]
 refine words.tk 2 17 (v:=?_) ?_ ?_
 rotate_left 1
 ·intro _ h;(try dsimp only at h);go_simp;(try with_reducible rfl)
 try simp only [words.pt]
 refine words.tk 3 18 (v:=?_) ?_ ?_
 rotate_left 1
 ·intro _ h;(try dsimp only at h);go_simp;(try with_reducible rfl)
 try simp only [words.pt]
 refine words.tk 4 19 (v:=?_) ?_ ?_
 rotate_left 1
 ·intro _ h;(try dsimp only at h);go_simp;(try with_reducible rfl)
 try simp only [words.pt]
 refine words.tk 6 21 (v:=?_) ?_ ?_
 rotate_left 1
 ·intro _ h;(try dsimp only at h);go_simp;(try with_reducible rfl)
 try simp only [words.pt]
 refine words.tk 7 22 (v:=?_) ?_ ?_
 rotate_left 1
 ·intro _ h;(try dsimp only at h);go_simp;(try with_reducible rfl)
 try simp only [words.pt]
 refine words.tk 8 23 (v:=?_) ?_ ?_
 rotate_left 1
 ·intro _ h;(try dsimp only at h);go_simp;(try with_reducible rfl)
 try simp only [words.pt]
 refine words.tk 9 24 (v:=?_) ?_ ?_
 rotate_left 1
 ·intro _ h;(try dsimp only at h);go_simp;(try with_reducible rfl)
 try simp only [words.pt]
 refine words.tk 10 25 (v:=?_) ?_ ?_
 rotate_left 1
 ·intro _ h;(try dsimp only at h);go_simp;(try with_reducible rfl)
 try simp only [words.pt]
 refine words.tk 11 26 (v:=?_) ?_ ?_
 rotate_left 1
 ·intro _ h;(try dsimp only at h);go_simp;(try with_reducible rfl)
 try simp only [words.pt]
 refine wpAnyH_ready (rs:=[5]) (by kernel_rfl) (by simp) (.cons rfl (fun K hK=>?_) .nil);go_simp
 go_at_call 62
 refine (J1.out _ HBv.out).mono ?_;rintro en v3 ⟨⟨A3,c3,rfl,hp3,hc3,hz3⟩,hv3⟩;clear hHeld;refine hK.out _ _ (HSS.out _ hv3) (fun hHeld=>?_);clear hK;refine words.tk 12 2 (v:=?_) ?_ ?_
 rotate_left 1
 ·intro _ h;(try dsimp only at h);go_simp;(try with_reducible rfl)
 try simp only [words.pt]
 refine words.tk 13 3 (v:=?_) ?_ ?_
 rotate_left 1
 ·intro _ h;(try dsimp only at h);go_simp;(try with_reducible rfl)
 try simp only [words.pt]
 refine words.tk 14 4 (v:=?_) ?_ ?_
 rotate_left 1
 ·intro _ h;(try dsimp only at h);go_simp;(try with_reducible rfl)
 try simp only [words.pt]
 refine words.tk 15 5 (v:=?_) ?_ ?_
 rotate_left 1
 ·intro _ h;(try dsimp only at h);go_simp;(try with_reducible rfl)
 try simp only [words.pt]
 refine wpAnyH_done (by kernel_rfl) ?_ _;have HF:=hid (show Asked t p w (.returned (.tuple #[.string t.S,.slice A3 t.Q.length c3,.string p,.bool true])) v3 from⟨⟨A3,c3,rfl,hp3,hc3,hz3⟩,HB2.out.trans (hv3.mono HB2.out.size)⟩);clear hHeld hp3 hc3 hz3 hv3 J1 HSS HBv;go_wp2_with fail
 exact bodyPost_ret (v:= .tuple #[.string t.S,.slice A3 t.Q.length c3,.string p,.bool true]) (by simp [results,results27,go_sem]) rfl HF.out
end Go.Proofs.YtkjpgheealfedaaGreatDoor.wlk

namespace Go.Proofs.YtkjpgheealfedaaGreatDoor.seen
open Go.RowKit words ext name tre stk

def PlcOutN (P:List (Nat×Nat)) (w:World) (e:Ending) (w':World):Prop:=∃A c,e= .returned (.slice A P.length c)∧Plc w' w'.heap.size A P∧P.length≤c∧(A=none→P.length=0∧c=0)∧Below w.heap.size w w'
theorem Jqj (A:Option Addr) (c:Nat) (ad:Int) (L:List (Nat×Int)) (Es:List (List Ent)) (w:World) (h:StkM w A L Es) (hl:L.length≤64) (hin:∀E∈Es,∃e,E[0]?=some e):
  Calls prog 21 #[stkV A L.length c ad] w (PlcOutN (rootP Es) w):=by
 obtain⟨W1,hW1⟩:=words.nm (w.alloc (.cells #[.slice A L.length c,.int .i64 ad] 29));have hb1:=words.b1 hW1;have hs1:W1.heap[w.heap.size]?=some (.cells #[.slice A L.length c,.int .i64 ad] 29 (0,0)):=by rw [hW1];exact heap_alloc_new w _
 have s0:=Jaa hs1 0;have s1:=Jaa hs1 1;have hent:∀x∈roots Es.length,∃e,entAt Es x=some e:=fun x hx=>by
  unfold roots at hx;obtain⟨k,hk,rfl⟩:=List.mem_map.1 hx;obtain⟨E,hE⟩:∃E,Es[k]?=some E:=⟨_,List.getElem?_eq_getElem (List.mem_range.1 hk)⟩
  obtain⟨e,he⟩:=hin E (List.mem_of_getElem? hE);exact⟨e,by unfold entAt;rw [hE];exact he⟩
 have HEn:=hid hent;have HK:=hid hs1;have HS:=hid (h.later hb1);have HW1:=hid hW1;have HB1:=hid hb1;clear hW1 hb1 hs1 h hin hent;obtain⟨iS,hiS,zS0,zS1,zS2⟩:=info_parts infoSpot;unfold stkV;go_enter func21,ntmps21
 go_upto_region 1 with fail
 rw [←HW1.out];clear HW1;have HC:=hid (show Calls prog 19 #[.agg #[.slice A L.length c,.int .i64 ad]] W1 fun e w'=>e= .returned (.int .i64 (L.length:Int))∧Below W1.heap.size W1 w' from Jcx A L.length c ad W1);go_wp2_with fail
 refine HC.out.mono ?_;rintro e w2 ⟨rfl,hb2⟩;have HB2:=hid hb2;have HO2:Hid (w2.ownsRow W1.heap.size 33 2 (.slice none 0 0) 0 ((roots 0).flatMap spC)):=hid (World.ownsRow_nil _ _ _ _);clear hb2 HC s0 s1;go_wp2_with fail
 go_loopw [7,3] (fun v v3 wr=>∃k:Nat,v= .int .i64 (k:Int)∧k≤L.length∧Hid (wr.ownsRow W1.heap.size 33 2 v3 k ((roots k).flatMap spC))∧Hid (Below W1.heap.size W1 wr)) (fun v _ _=>L.length - (intOf v).toNat)
 case atStart=>exact⟨0,rfl,Nat.zero_le _,HO2,HB2⟩
 case round=>
  clear HO2 HB2;obtain⟨k,rfl,hk,HO,HB⟩:=hrel;obtain⟨Ar,cr,rfl,hcr,hzr⟩:=own_facts HO.out;have HZr:=hid hzr;clear hzr;by_cases hlt:k<L.length
  ·obtain⟨Wc,hWc⟩:=words.nm (wr.alloc (.cells #[.int .i64 (k:Int),.int .i64 0] 33))
   have hbc:Below wr.heap.size wr Wc:=words.b1 hWc;have HNc:Hid (∀(i:Nat) (u:Value),([.int .i64 (k:Int),.int .i64 0]:List Value)[i]?=some u→Wc.cell? ((⟨wr.heap.size,0,none⟩:Addr).add i)=some u):=hid fun i u hi=>by rw [hWc,Jar];simpa using hi
   have HOc:=hid (ownL HO.out hbc);have HBc:=hid (HB.out.trans (hbc.mono HB.out.size));have HWc:=hid hWc.symm;clear hWc hbc HO HB;go_wp2_with (at_builtin;rw [HWc.out];refine wpList_append_own _ rfl (.tmp 10) (.tmp 13) 35 rfl W1.heap.size 33 iS _ 2 16 underlying35 hiS zS0 zS1 zS2 rfl (by omega) (.slice Ar k cr) k ((roots k).flatMap spC) rfl HOc.out ⟨wr.heap.size,0,none⟩ 1 1 [.int .i64 (k:Int),.int .i64 0] rfl rfl HNc.out (by simp [Value.oneCell']) (by simp only [maxLen];omega) (by omega) HBc.out.size ?_;intro v3' wq hownq hgrowq hnilq)
   have HBq:=hid (Jad HBc.out HOc.out hgrowq (Nat.le_refl _) (Nat.le_refl _));have HOq:Hid (wq.ownsRow W1.heap.size 33 2 v3' (k+1) ((roots (k+1)).flatMap spC)):=hid (by rw [Jgs,List.flatMap_append];exact hownq);clear hownq hgrowq hnilq;go_roundw
   case rel=>exact⟨k+1,by go_num,by omega,HOq,HBq⟩
   case measure=>simp [intOf];omega
  ·obtain rfl:k=L.length:=by omega
   have hSr:=HS.out.later HB.out;have hP:=Jh0 HO.out;have hes:=hSr.es;have hkr:=(HB.out.block _ (lt_of_some HK.out)).trans HK.out;have s0:=Jaa hkr 0;have s1:=Jaa hkr 1;have h1:=Jga A c ad L Es Ar cr (roots L.length) wr hSr hP (by rw [Jal];exact hcr) (by rw [Jal];omega) (by rw [←hes];exact HEn.out);rw [Jal] at h1;unfold stkV at h1;have HC:=hid h1;have HP:=hid hP;have HE:=hid hes;have HFr:Hid (Ar=none→(rootP Es).length=0∧cr=0):=hid fun e=>by
    obtain⟨h1,h2⟩:=HZr.out e;refine⟨?_,h2⟩;rw [Ja5,hes];have:=Jdh Es (roots L.length);rw [Jal] at this;omega
   have HBw:=hid (HB1.out.trans (HB.out.mono HB1.out.size));clear h1 hSr hP hes hkr HO HB;go_wp2_with fail
   refine HC.out.mono ?_;rintro e w5 ⟨rfl,hb5⟩;have HF:Hid (PlcOutN (rootP Es) w (.returned (.slice Ar (oneN Es (roots L.length)) cr)) w5):=hid ⟨Ar,cr,by rw [Ja5,HE.out],by
     unfold rootP;rw [HE.out];exact ((HP.out.keep hb5).more hb5.size).take _,by
     rw [Ja5,HE.out];have:=Jdh Es (roots L.length);rw [Jal] at this;omega,HFr.out,HBw.out.trans (hb5.mono HBw.out.size)⟩
   clear hb5 HC s0 s1;go_wp2_with fail
   go_ret
   exact HF.out
end Go.Proofs.YtkjpgheealfedaaGreatDoor.seen

namespace Go.Proofs.YtkjpgheealfedaaGreatDoor.wlk
open Go.RowKit words ext name tre stk Go.Proofs.YtkjpgheealfedaaGreatDoor.seen

def bx5 (u0 u1 u2 u3 u4:Value):Obj:= .cells #[u0,u1,u2,u3,u4] 39 (0,0)
def WalkedTo (R:List Nd) (O:AtO) (w:World) (e:Ending) (w':World):Prop:=
 ((∃k:Int,O= .err k∧k≠0∧0≤k∧k≤9∧e= .returned (.tuple #[tgV noT none 0,.int .i64 k]))∨
  (∃(t:Tg) (A:Option Addr) (c:Nat) (ns:List ByteArray) (E:List Nd),O= .ok ns E∧e= .returned (.tuple #[tgV t A c,.int .i64 0])∧Plc w' w'.heap.size A t.Q∧t.Q.length≤c∧(A=none→t.Q.length=0∧c=0)∧
     Hold R t E∧t.S=pathOf ns∧(∀n∈ns,NmD n)∧ns.length≤200∧Along (D0 R) ns E∧(ns≠[]→E≠[])∧Spt R ns t))∧Below w.heap.size w w'
def intC:Option Value→Nat
 |some (.int _ k)=>k.toNat
 |_=>0
def lenC:Option Value→Nat
 |some (.slice _ n _)=>n
 |_=>0
def measW (g:Nat) (w:World):Nat:=(40 - intC (w.cell? ⟨g,3,none⟩))*128+lenC (w.cell? ⟨g,1,none⟩)
theorem Jk7 {w:World} {g:Nat} {ts:List Tg} {ps:List ByteArray} {f:Bool} {h:Nat} (hw:Wkr w g ts ps f h):measW g w=(40 - h)*128+ps.length:=by
 obtain⟨A,c,Ap,cp,hg,_⟩:=hw.ex;unfold measW;rw [Jaa hg 3,Jaa hg 1];rfl
theorem Jtf {R:List Nd} {O:AtO} {w w2 w3:World} {rb B:Nat} {t:Tg} {A:Option Addr} {c:Nat} (hbB:w.heap.size≤rb) (hrB:rb<B) (hx:w3.heap[rb]?=some (bx5 (.string ⟨#[]⟩) (.int .i64 0) (.int .i64 0) (.int .i64 0) (.slice none 0 0))) (hb:Below w.heap.size w w3)
  (hB:B≤w2.heap.size) (hp:Plc w3 w3.heap.size A t.Q) (hl:t.Q.length≤c) (hz:A=none→t.Q.length=0∧c=0) (hhi:∀b o fr,A=some ⟨b,o,fr⟩→w2.heap.size≤b)
  {ns:List ByteArray} {E:List Nd} (hO:O= .ok ns E) (hh:Hold R t E) (hS:t.S=pathOf ns) (hn:∀n∈ns,NmD n) (hnl:ns.length≤200) (hal:Along (D0 R) ns E) (hne:ns≠[]→E≠[]) (hsp:Spt R ns t):
  ∀w4,w4=set5 w3 rb (.string t.S) (.int .i64 t.K) (.int .i64 t.l) (.int .i64 t.i) (.slice A t.Q.length c)→w4.cell? ⟨rb,0,none⟩=some (.string t.S)∧w4.cell? ⟨rb,1,none⟩=some (.int .i64 t.K)∧w4.cell? ⟨rb,2,none⟩=some (.int .i64 t.l)∧w4.cell? ⟨rb,3,none⟩=some (.int .i64 t.i)∧
   w4.cell? ⟨rb,4,none⟩=some (.slice A t.Q.length c)∧WalkedTo R O w (.returned (.tuple #[.agg #[.string t.S,.int .i64 t.K,.int .i64 t.l,.int .i64 t.i,.slice A t.Q.length c],.int .i64 0])) w4:=fun w4 hw=>by
 have ho:=over5 (u0:= .string t.S) (u1:= .int .i64 t.K) (u2:= .int .i64 t.l) (u3:= .int .i64 t.i) (u4:= .slice A t.Q.length c) hx;have hbd:=below5 hb hbB (.string t.S) (.int .i64 t.K) (.int .i64 t.l) (.int .i64 t.i) (.slice A t.Q.length c);have hblk:∀b,b≠rb→(set5 w3 rb (.string t.S) (.int .i64 t.K) (.int .i64 t.l) (.int .i64 t.i) (.slice A t.Q.length c)).heap[b]?=w3.heap[b]?:=fun b h2=>by
  unfold set5;rw [heap_setCell_other _ _ _ _ h2,heap_setCell_other _ _ _ _ h2,heap_setCell_other _ _ _ _ h2,heap_setCell_other _ _ _ _ h2,heap_setCell_other _ _ _ _ h2]
 have hsz:w3.heap.size=(set5 w3 rb (.string t.S) (.int .i64 t.K) (.int .i64 t.l) (.int .i64 t.i) (.slice A t.Q.length c)).heap.size:=by simp [set5]
 rw [←hw] at ho hbd hblk hsz;have hplc:Plc w4 w4.heap.size A t.Q:=fun i x hx=>by
  obtain⟨b,off,h1,h2,h3,h4⟩:=hp i x hx;have h5:=hhi _ _ _ h1;have e:=hblk b (by omega);exact⟨b,off,h1,by rw [←hsz];exact h2,(World.cell?_of_block e).trans h3,(World.cell?_of_block e).trans h4⟩
 exact⟨Jaa ho 0,Jaa ho 1,Jaa ho 2,Jaa ho 3,Jaa ho 4,.inr ⟨t,A,c,ns,E,hO,rfl,hplc,hl,hz,hh,hS,hn,hnl,hal,hne,hsp⟩,hbd⟩
theorem Jn2 {R:List Nd} {O:AtO} {w w3:World} {rb:Nat} {k:Int} (hbB:w.heap.size≤rb) (hx:w3.heap[rb]?=some (bx5 (.string ⟨#[]⟩) (.int .i64 0) (.int .i64 0) (.int .i64 0) (.slice none 0 0))) (hb:Below w.heap.size w w3) (hO:O= .err k) (h0:k≠0) (h1:0≤k) (h2:k≤9):
  ∀w4,w4=set5 w3 rb (.string ⟨#[]⟩) (.int .i64 0) (.int .i64 0) (.int .i64 0) (.slice none 0 0)→w4.cell? ⟨rb,0,none⟩=some (.string ⟨#[]⟩)∧w4.cell? ⟨rb,1,none⟩=some (.int .i64 0)∧w4.cell? ⟨rb,2,none⟩=some (.int .i64 0)∧w4.cell? ⟨rb,3,none⟩=some (.int .i64 0)∧
   w4.cell? ⟨rb,4,none⟩=some (.slice none 0 0)∧WalkedTo R O w (.returned (.tuple #[.agg #[.string ⟨#[]⟩,.int .i64 0,.int .i64 0,.int .i64 0,.slice none 0 0],.int .i64 k])) w4:=fun w4 hw=>by
 have ho:=over5 (u0:= .string ⟨#[]⟩) (u1:= .int .i64 0) (u2:= .int .i64 0) (u3:= .int .i64 0) (u4:= .slice none 0 0) hx;have hbd:=below5 hb hbB (.string ⟨#[]⟩) (.int .i64 0) (.int .i64 0) (.int .i64 0) (.slice none 0 0);rw [←hw] at ho hbd;exact⟨Jaa ho 0,Jaa ho 1,Jaa ho 2,Jaa ho 3,Jaa ho 4,.inl ⟨k,hO,h0,h1,h2,rfl⟩,hbd⟩
theorem Jkw {R:List Nd} (hg:∀t∈R,allB t=true) (hK:∀t∈R,t.K=2) (hk:∀d∈R,depth d<100) (hR:R.length≤64) (A:Option Addr) (c:Nat) (ad:Int) (L:List (Nat×Int)) (m:Int) (s:ByteArray) (f:Bool) (O:AtO) (hO:Goes R f s O) (w:World)
  (hst:StkM w A L (tabs R)) (hm:w.cell? ⟨0,0,none⟩=some (.int .i64 m)) (hs:s.size≤1000000):
  Calls prog 7 #[stkV A L.length c ad,.string s,.bool f] w (WalkedTo R O w):=by
 obtain⟨P,hP⟩:=words.nm (rootP (tabs R));have hPl:P.length≤64:=by rw [hP];exact Nat.le_trans Jqp hR
 have hLl:L.length≤64:=by rw [←hst.es,Jbo];exact hR
 obtain⟨W1,hW1⟩:=words.nm (w.alloc (.cells #[.slice A L.length c,.int .i64 ad] 29));obtain⟨rb,hrb⟩:=words.nm (w.heap.size+1);have hb1:=words.b1 hW1;have hs1:W1.heap[w.heap.size]?=some (.cells #[.slice A L.length c,.int .i64 ad] 29 (0,0)):=by rw [hW1];exact heap_alloc_new w _
 have hz1:W1.heap.size=rb:=by rw [hW1,hrb];exact World.size_alloc w _
 obtain⟨W2,hW2⟩:=words.nm (W1.alloc (bx5 (.string ⟨#[]⟩) (.int .i64 0) (.int .i64 0) (.int .i64 0) (.slice none 0 0)));have hb2:Below W1.heap.size W1 W2:=words.b1 hW2;have HX:=hid (show W2.heap[rb]?=some (bx5 (.string ⟨#[]⟩) (.int .i64 0) (.int .i64 0) (.int .i64 0) (.slice none 0 0)) by rw [hW2,←hz1];exact heap_alloc_new W1 _);have HK:=hid ((hb2.block _ (lt_of_some hs1)).trans hs1);have hb02:=hb1.trans (hb2.mono hb1.size);have HB2:=hid hb02;have HS:=hid (hst.later hb02);have HM:=hid (Jae hm hb02);have HRb:=hid (show w.heap.size≤rb by omega);have HRl:=hid (lt_of_some HX.out);have s0:W2.cell? ⟨w.heap.size,0,none⟩=some (.slice A L.length c):=Jaa HK.out 0;have s1:W2.cell? ⟨w.heap.size,1,none⟩=some (.int .i64 ad):=Jaa HK.out 1;have HRt:Hid (Calls prog 21 #[.agg #[.slice A L.length c,.int .i64 ad]] W2 (PlcOutN P W2)):=hid (by rw [hP];exact Jqj A c ad L (tabs R) W2 HS.out hLl Jk5);have HPe:=hid hP;have HG:=hid hg;have HK2:=hid hK;have HDp:=hid hk;have HO:=hid hO;have HW:Hid (((w.alloc (.cells #[.slice A L.length c,.int .i64 ad] 29)).alloc (.cells #[.string ⟨#[]⟩,.int .i64 0,.int .i64 0,.int .i64 0,.slice none 0 0] 39))=W2):=hid (by rw [hW2,hW1];rfl);have HRe:=hid hrb.symm;clear hP hb1 hs1 hz1 hb2 hb02 hst hm hg hK hk hO hW1 hW2 hrb;unfold stkV;go_enter func7,ntmps7
 go_upto_region 1 with fail
 rw [HW.out];simp only [HRe.out];clear HW;go_wp2_with fail
 refine HRt.out.mono ?_;rintro e w3 ⟨Ap,cp,rfl,hp3,hc3,hn3,hb3⟩;have HN:=hid (Jqn w3 Ap cp P s f m hp3 hn3 (by omega) (Jae HM.out hb3) (by omega));have HB3:=hid hb3;clear hp3 hc3 hn3 hb3 HRt s0 s1;go_wp2_with fail
 refine HN.out.mono ?_;rintro e w4 ⟨(⟨hno,rfl⟩ |⟨PP,g,hpa,rfl,hgw,hwk⟩),hb4⟩
 ·have hb24:=HB3.out.trans (hb4.mono HB3.out.size)
  have hx:=(hb24.block _ HRl.out).trans HX.out;have hOe:O= .err 1:=by
   rcases HO.out with⟨_,h⟩ |⟨ps,h,_⟩
   ·exact h
   ·rw [hno] at h;cases h
  have HPut:=hid (Jn2 (R:=R) HRb.out hx (HB2.out.trans (hb24.mono HB2.out.size)) hOe (by decide) (by decide) (by decide));unfold bx5 at hx;have d0:w4.cell? ⟨rb,0,none⟩=some (.string ⟨#[]⟩):=Jaa hx 0;have d1:w4.cell? ⟨rb,1,none⟩=some (.int .i64 0):=Jaa hx 1;have d2:w4.cell? ⟨rb,2,none⟩=some (.int .i64 0):=Jaa hx 2;have d3:w4.cell? ⟨rb,3,none⟩=some (.int .i64 0):=Jaa hx 3;have d4:w4.cell? ⟨rb,4,none⟩=some (.slice none 0 0):=Jaa hx 4;have z0:=Jab hx 0;have z1:=Jab hx 1;have z2:=Jab hx 2;have z3:=Jab hx 3;have z4:=Jab hx 4;clear hx hb24 hb4 hno hOe HN;go_wp2_with fail
  obtain⟨p0,p1,p2,p3,p4,HE⟩:=HPut.out _ rfl;unfold set5 at p0 p1 p2 p3 p4 HE;exact bodyPost_ret (v:= .tuple #[.agg #[.string ⟨#[]⟩,.int .i64 0,.int .i64 0,.int .i64 0,.slice none 0 0],.int .i64 1]) (by simp [results,results7,go_sem,p0,p1,p2,p3,p4]) rfl HE
 have hb24:=HB3.out.trans (hb4.mono HB3.out.size);have hL:Leads R f [] PP (40 - 0) O:=by
  rcases HO.out with⟨h,_⟩ |⟨ps,h,hL⟩
  ·rw [hpa] at h;cases h
  ·rw [hpa] at h
   injection h with h;rw [Jc0 h];exact hL
 have hpl:=Jb4 hpa;rw [List.length_map] at hpl;have hwt:=Jrg HK2.out;rw [←HPe.out] at hwt;have hinv:=Inv.make HG.out HDp.out hwt hL (fun n hn=>by cases hn) (Jmp hpa) (by omega) (by omega);have hone:([topT P]:List Tg).length=1:=rfl;rw [hone] at hinv;have hgB:W2.heap.size≤g:=Nat.le_trans HB3.out.size hgw;have H0:Hid (∃(ts:List Tg) (ps:List ByteArray) (h:Nat),Wkr w4 g ts ps f h∧Inv R f O ts ps h∧Below W2.heap.size W2 w4):=hid ⟨_,_,_,hwk,hinv,hb24⟩;have HGB:=hid hgB;clear hL hpl hwt hinv hone hpa hwk hb24 hb4 hgw hgB HN HB3;go_wp2_with fail
 go_loopw [] (fun wr=>Hid (∃(ts:List Tg) (ps:List ByteArray) (h:Nat),Wkr wr g ts ps f h∧Inv R f O ts ps h∧Below W2.heap.size W2 wr)) (fun wr=>measW g wr)
 case atStart=>exact H0
 case round=>
  clear H0;have H:=hrel;clear hrel;obtain⟨ts,ps,h,hwk,hinv,hbr⟩:=H.out;rcases hinv.go with⟨rfl,ts',t,ns,E,rfl,htl,hOk,hHold,hSe,hnz,hnl,hal,hne,hsp⟩ |⟨p,ps',ns,rfl,hpd,hwd,hld,hnz⟩
  ·have HAsk:=hid (Jsv wr g (ts'++[t]) f h hwk)
   have HTg:Hid (∀w5:World,Below wr.heap.size wr w5→Calls prog 28 #[.pointer (some ⟨g,0,none⟩)] w5 (TgtH t w5)):=hid fun w5 hb5=>Jj6 w5 g ts' t f h (hwk.later hb5) (by omega) (by
     rcases hHold with h |⟨_,_,_,_,_,_,_,_,_,h⟩
     ·rw [h.2.2.1.length]
      have:=hal.len;have:=Jgr R;omega
     ·rw [h];simp)
   have HF:=hid (And.intro hOk (And.intro hHold (And.intro hSe (And.intro hnz (And.intro hnl (And.intro hal (And.intro hne hsp)))))));have HBr:=hid hbr;clear H hwk hinv hOk hHold hSe hnz hnl hal hne hsp hbr;go_wp2_with fail
   refine HAsk.out.mono ?_;rintro e w5 ⟨rfl,hb5⟩;have HT:=hid (HTg.out w5 hb5);have HB5:=hid hb5;clear hb5 HAsk HTg;go_wp2_with fail
   refine HT.out.mono ?_;rintro e w6 ⟨⟨A6,c6,rfl,hp6,hc6,hz6,hhi6⟩,hb6⟩;have hb26:=HBr.out.trans ((HB5.out.trans (hb6.mono HB5.out.size)).mono HBr.out.size);have hx:=(hb26.block _ HRl.out).trans HX.out;obtain⟨o1,o2,o3,o4,o5,o6,o7,o8⟩:=HF.out;have HPut:=hid (Jtf (R:=R) (w2:=w5) HRb.out HRl.out hx (HB2.out.trans (hb26.mono HB2.out.size)) (Nat.le_trans HBr.out.size HB5.out.size) hp6 hc6 hz6 hhi6 o1 o2 o3 o4 o5 o6 o7 o8);unfold bx5 at hx;have d0:w6.cell? ⟨rb,0,none⟩=some (.string ⟨#[]⟩):=Jaa hx 0;have d1:w6.cell? ⟨rb,1,none⟩=some (.int .i64 0):=Jaa hx 1;have d2:w6.cell? ⟨rb,2,none⟩=some (.int .i64 0):=Jaa hx 2;have d3:w6.cell? ⟨rb,3,none⟩=some (.int .i64 0):=Jaa hx 3;have d4:w6.cell? ⟨rb,4,none⟩=some (.slice none 0 0):=Jaa hx 4;have z0:=Jab hx 0;have z1:=Jab hx 1;have z2:=Jab hx 2;have z3:=Jab hx 3;have z4:=Jab hx 4;unfold tgV;clear hx hb26 hp6 hc6 hz6 hhi6 hb6 o1 o2 o3 o4 o5 o6 o7 o8 HT HF;go_wp2_with fail
   obtain⟨p0,p1,p2,p3,p4,HE⟩:=HPut.out _ rfl;unfold set5 at p0 p1 p2 p3 p4 HE;exact bodyPost_ret (v:= .tuple #[.agg #[.string t.S,.int .i64 t.K,.int .i64 t.l,.int .i64 t.i,.slice A6 t.Q.length c6],.int .i64 0]) (by simp [results,results7,go_sem,p0,p1,p2,p3,p4]) rfl HE
  ·obtain⟨ts',t,E,rfl,htl,hE,hHold,hSe,_,hPl⟩:=hwd.last
   have hnl:=hwd.deep HDp.out;obtain⟨Q',hQ'⟩:=EntN.some (s:=p) (D:=E) fun d hd=>((hE.good (Good.root HG.out)).asc d hd).2;have hql:t.Q.length≤64:=by
    rw [hHold.2.2.1.length];have:=hE.len;have:=Jgr R;omega
   have hmr:=Jk7 hwk;rw [List.length_cons] at hmr;have HAsk:=hid (Jsr wr g ts' t p ps' f h hwk (by omega) (by omega));have HLk:Hid (∀(w5:World) (A5:Option Addr) (c5:Nat),Below wr.heap.size wr w5→Plc w5 w5.heap.size A5 t.Q→Calls prog 29 #[.agg #[.slice A L.length c,.int .i64 ad],.slice A5 t.Q.length c5,.string p] w5 (Found R f O g ts' t p ps' h (.agg #[.slice A L.length c,.int .i64 ad]) w5)):=hid fun w5 A5 c5 hb5 hp5=>by
    have hb25:=hbr.trans (hb5.mono hbr.size);have hst5:=HS.out.later hb25;exact (Jqr HG.out hHold.2.2.1 hHold.2.2.2.1 hQ' A c ad L A5 c5 w5 hst5 hp5 (by omega)).mono fun en w6 H=>Jod HG.out HDp.out hR hwd hld hpd hnz hinv.small hinv.hops hinv.few hE hQ' hSe hPl A c ad L m hst5 (Jae HM.out hb25) H
   have HWk:=hid hwk;have HBr:=hid hbr;have HMr:=hid hmr;have s0:wr.cell? ⟨w.heap.size,0,none⟩=some (.slice A L.length c):=Jaa ((hbr.block _ (lt_of_some HK.out)).trans HK.out) 0;clear s0 H hwk hinv hbr hwd hld hpd hnz htl hE hHold hSe hPl hnl hQ' hql hmr;go_wp2_with fail
   refine HAsk.out.mono ?_;rintro e w5 ⟨⟨A5,c5,rfl,hp5,hc5,hn5⟩,hb5⟩;have hb25:=HBr.out.trans (hb5.mono HBr.out.size);have hK5:=(hb25.block _ (lt_of_some HK.out)).trans HK.out;have s0:w5.cell? ⟨w.heap.size,0,none⟩=some (.slice A L.length c):=Jaa hK5 0;have s1:w5.cell? ⟨w.heap.size,1,none⟩=some (.int .i64 ad):=Jaa hK5 1;have HL5:=hid (HLk.out w5 A5 c5 hb5 hp5);have HB5:=hid hb5;have HB25:=hid hb25;clear hp5 hc5 hn5 hb5 hb25 hK5 HLk HAsk;go_wp2_with fail
   refine HL5.out.mono ?_;rintro e w6 ⟨K,l,i,Af,nf,cf,there,x,rfl,hb6,hTa,hTe⟩;obtain⟨q,hq⟩:=words.nm (w6.heap.size);obtain⟨W8,hW8⟩:=words.nm (w6.alloc (.cells #[.int .i64 K,.int .i64 l,.int .i64 i,.slice Af nf cf] 37));have hf8:W8.heap[q]?=some (.cells #[.int .i64 K,.int .i64 l,.int .i64 i,.slice Af nf cf] 37 (0,0)):=by rw [hW8,hq];exact heap_alloc_new w6 _
   have hb68:Below w6.heap.size w6 W8:=words.b1 hW8;have hbr8:Below wr.heap.size wr W8:=(HB5.out.trans (hb6.mono HB5.out.size)).trans (hb68.mono (HB5.out.trans (hb6.mono HB5.out.size)).size);have hb28:Below W2.heap.size W2 W8:=HBr.out.trans (hbr8.mono HBr.out.size);have hK8:=(hb28.block _ (lt_of_some HK.out)).trans HK.out;have hgl:g<wr.heap.size:=by
    obtain⟨_,_,_,_,h1,_⟩:=HWk.out.ex;exact lt_of_some h1
   have hqg:q≠g:=by
    have:=HB5.out.size;have:=hb6.size;omega
   have hwg:w.heap.size≠g:=by
    have:=lt_of_some HK.out;have:=HGB.out;omega
   have HGn:=hid (And.intro hqg hwg);have hS0:∀w':World,(∀b,b<W8.heap.size→b≠g→w'.heap[b]?=W8.heap[b]?)→(w'.cell? ⟨w.heap.size,0,none⟩=some (.slice A L.length c)∧w'.cell? ⟨w.heap.size,1,none⟩=some (.int .i64 ad)∧w'.cell? ⟨q,0,none⟩=some (.int .i64 K)∧w'.cell? ⟨q,1,none⟩=some (.int .i64 l)∧w'.cell? ⟨q,2,none⟩=some (.int .i64 i)∧w'.cell? ⟨q,3,none⟩=some (.slice Af nf cf)):=fun w' hb'=>by
    have e1:=(hb' _ (lt_of_some hK8) hwg).trans hK8;have e2:=(hb' _ (lt_of_some hf8) hqg).trans hf8;exact⟨Jaa e1 0,Jaa e1 1,Jaa e2 0,Jaa e2 1,Jaa e2 2,Jaa e2 3⟩
   have HSS:=hid hS0;have HBv:Hid (Below W8.heap.size W8 W8.drew):=hid (Below.refl _ _).drew;have HT1:Hid (∀w':World,Below W8.heap.size W8 w'→Calls prog 31 #[.agg #[.slice A L.length c,.int .i64 ad],.agg #[.int .i64 K,.int .i64 l,.int .i64 i,.slice Af nf cf]] w' fun e w''=>e= .returned (.string x)∧Below W8.heap.size W8 w''):=hid fun w' hb=>
    (hTa w' (hb68.trans (hb.mono hb68.size))).mono fun e w'' ⟨h1,h2⟩=>⟨h1,hb.trans (h2.mono hb.size)⟩
   have HT2:Hid (∀w':World,Below W8.heap.size W8 w'→Calls prog 30 #[.pointer (some ⟨g,0,none⟩),.agg #[.int .i64 K,.int .i64 l,.int .i64 i,.slice Af nf cf],.bool there,.string x] w' fun e w''=>∃k:Int,e= .returned (.int .i64 k)∧Tur g W8 w''∧((k≠0∧0≤k∧k≤9∧O= .err k)∨
       (k=0∧∃ts2 ps2 h2,Wkr w'' g ts2 ps2 f h2∧Inv R f O ts2 ps2 h2∧(40 - h2)*128+ps2.length<(40 - h)*128+(ps'.length+1)))):=hid fun w' hb=>
     (hTe w' (hb68.trans (hb.mono hb68.size)) (HWk.out.later (hbr8.trans (hb.mono hbr8.size)))).mono fun e w'' H=>by
      obtain⟨k,h1,h2,h3⟩:=H.nr;exact⟨k,h1,(Tur.below hb).trans h2,h3⟩
   have HB28:=hid hb28;have HW8:=hid hW8.symm;have HQ:=hid hq.symm;clear hq hW8 hf8 hb68 hbr8 hb28 hK8 hgl hqg hwg hS0 hTa hTe hb6 HL5 s0 s1;go_upto_region 8 with fail
   rw [HW8.out];simp only [HQ.out];refine wp_region_held_drew (S:=fun w'=>(w'.cell? ⟨w.heap.size,0,none⟩=some (.slice A L.length c)∧w'.cell? ⟨w.heap.size,1,none⟩=some (.int .i64 ad)∧w'.cell? ⟨q,0,none⟩=some (.int .i64 K)∧w'.cell? ⟨q,1,none⟩=some (.int .i64 l)∧w'.cell? ⟨q,2,none⟩=some (.int .i64 i)∧w'.cell? ⟨q,3,none⟩=some (.slice Af nf cf))) (by kernel_rfl) (HSS.out _ (fun b hb _=>HBv.out.block b hb)) (fun hHeld=>?_);refine words.tk 0 47 (v:=?_) ?_ ?_
   rotate_left 1
   ·intro _ h;(try dsimp only at h);go_simp;(try with_reducible rfl)
   try simp only [words.pt]
   refine words.tk 1 48 (v:=?_) ?_ ?_
   rotate_left 1
   ·intro _ h;(try dsimp only at h);go_simp;(try with_reducible rfl)
   try simp only [words.pt]
   refine words.tk 2 49 (v:=?_) ?_ ?_
   rotate_left 1
   ·intro _ h;(try dsimp only at h);go_simp;(try with_reducible rfl)
   try simp only [words.pt]
   refine words.tk 3 50 (v:=?_) ?_ ?_
   rotate_left 1
   ·intro _ h;(try dsimp only at h);go_simp;(try with_reducible rfl)
   try simp only [words.pt]
   refine words.tk 4 51 (v:=?_) ?_ ?_
   rotate_left 1
   ·intro _ h;(try dsimp only at h);go_simp;(try with_reducible rfl)
   try simp only [words.pt]
   refine wpAnyH_ready (rs:=[5]) (by kernel_rfl) (by simp) (.cons rfl (fun K hK=>?_) .nil);go_simp
   go_at_call 31
   refine (HT1.out _ HBv.out).mono ?_;rintro en v3 ⟨rfl,hv3⟩;clear hHeld;refine hK.out _ _ (HSS.out _ (fun b hb _=>hv3.block b hb)) (fun hHeld=>?_);clear hK;refine wpAnyH_ready (rs:=[6]) (by kernel_rfl) (by simp) (.cons rfl (fun K hK=>?_) .nil);go_simp
   go_at_call 30
   refine (HT2.out _ hv3).mono ?_;rintro en v4 ⟨k,rfl,hv4,hres⟩;clear hHeld;refine hK.out _ _ (HSS.out _ (fun b hb hg=>hv4.block b hb hg)) (fun hHeld=>?_);clear hK;refine words.tk 7 16 (v:=?_) ?_ ?_
   rotate_left 1
   ·intro _ h;(try dsimp only at h);go_simp;(try with_reducible rfl)
   try simp only [words.pt]
   refine wpAnyH_done (by kernel_rfl) ?_ _;have HV4:=hid hv4;have HRes:=hid hres;have hb24:Below W2.heap.size W2 v4:=HB28.out.trans (hv4.low HGB.out HB28.out.size);have HB24:=hid hb24;clear hHeld hv3 hv4 hres hb24 HT1 HT2 HSS HBv HW8 HQ;rcases HRes.out with⟨k0,k1,k2,hOk⟩ |⟨hk0,ts2,ps2,h2,hwk2,hinv2,hms⟩
   ·have g0:(k !=0)=true:=by rw [bne_iff_ne];exact k0
    have hx:=(HB24.out.block _ HRl.out).trans HX.out;have HPut:=hid (Jn2 (R:=R) HRb.out hx (HB2.out.trans (HB24.out.mono HB2.out.size)) hOk k0 k1 k2);unfold bx5 at hx;have d0:v4.cell? ⟨rb,0,none⟩=some (.string ⟨#[]⟩):=Jaa hx 0;have d1:v4.cell? ⟨rb,1,none⟩=some (.int .i64 0):=Jaa hx 1;have d2:v4.cell? ⟨rb,2,none⟩=some (.int .i64 0):=Jaa hx 2;have d3:v4.cell? ⟨rb,3,none⟩=some (.int .i64 0):=Jaa hx 3;have d4:v4.cell? ⟨rb,4,none⟩=some (.slice none 0 0):=Jaa hx 4;have z0:=Jab hx 0;have z1:=Jab hx 1;have z2:=Jab hx 2;have z3:=Jab hx 3;have z4:=Jab hx 4;clear hx k0 k1 k2 hOk HRes;go_wp2_with fail
    obtain⟨p0,p1,p2,p3,p4,HE⟩:=HPut.out _ rfl;unfold set5 at p0 p1 p2 p3 p4 HE;exact bodyPost_ret (v:= .tuple #[.agg #[.string ⟨#[]⟩,.int .i64 0,.int .i64 0,.int .i64 0,.slice none 0 0],.int .i64 k]) (by simp [results,results7,go_sem,p0,p1,p2,p3,p4]) rfl HE
   ·subst hk0
    have HNext:Hid (∃(ts:List Tg) (ps:List ByteArray) (h:Nat),Wkr v4 g ts ps f h∧Inv R f O ts ps h∧Below W2.heap.size W2 v4):=hid ⟨ts2,ps2,h2,hwk2,hinv2,HB24.out⟩;have HMs:Hid (measW g v4<measW g wr):=hid (by rw [Jk7 hwk2,HMr.out];exact hms);clear hwk2 hinv2 hms HRes;go_wp2_with fail
    go_roundw
    case rel=>exact HNext
    case measure=>exact HMs.out
end Go.Proofs.YtkjpgheealfedaaGreatDoor.wlk
