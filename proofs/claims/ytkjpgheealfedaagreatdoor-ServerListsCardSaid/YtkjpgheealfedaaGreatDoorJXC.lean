import Derived.Test.YtkjpgheealfedaaGreatDoorJXA
import Derived.Deep.RegionLawGrows
set_option maxHeartbeats 12800000
set_option maxRecDepth 100000
open Go.Lib (hid)
open Go.Proofs.Tryz
namespace Go.Proofs.YtkjpgheealfedaaGreatDoor.wlk
open Go.RowKit words ext name tre stk Go.Proofs.YtkjpgheealfedaaGreatDoor.seen

theorem Jmi {w w':World} (h:w.grownBy w' none):Below w.heap.size w w':=⟨h.os,h.tape,h.output,h.size,fun k hk=>h.block k hk (fun e=>by cases e)⟩
theorem Jm4 (A:Option Addr) (n cap:Nat) (h:n≤cap) (wx:World):
  (Instr.slice 142 (.slice A n cap) none (some (.int .i64 (n:Int))) (some (.int .i64 (n:Int)))).run prog wx= .ok (.slice A n n) wx:=by
 obtain⟨i0,hi,hz0,hz1,hz2⟩:=info_parts infoTg;have he:Tryz.prog.elem 142=39:=by kernel_rfl
 rw [run_slice_hm (P:=prog) wx 142 A n cap (by kernel_rfl) .i64 .i64 (n:Int) (n:Int) (by omega) (by omega) (by omega),he];simp [sizeOf,typeInfo,hi,hz1,Result.andThen,sliced];rcases A with _ |A
 ·intro _;rfl
 ·simp [Addr.add]
theorem Jft (w:World) (g:Nat) (ts:List Tg) (t:Tg) (p:ByteArray) (ps:List ByteArray) (f:Bool) (h:Nat) (K l i:Int) (Q:List (Nat×Nat)) (A:Option Addr) (c:Nat) (hw:Wkr w g (ts++[t]) (p::ps) f h) (hp:Plc w w.heap.size A Q) (hz:A=none→Q.length=0∧c=0) (hq:Q.length≤1000)
  (hl:ts.length≤1000000) (h1:t.S.size≤1000000000) (h2:p.size≤1000000000):
  Calls prog 65 #[.pointer (some ⟨g,0,none⟩),.agg #[.int .i64 K,.int .i64 l,.int .i64 i,.slice A Q.length c]] w fun e w'=>(∃u,e= .returned u)∧
   Wkr w' g ((ts++[t]++[(⟨childS t.S p,K,l,i,Q⟩:Tg)]).take (upK (ts.length+2) ps)) (restP ps) f h∧Tur g w w':=by
 obtain⟨W1,hW1⟩:=words.nm (w.alloc (.cells #[.int .i64 K,.int .i64 l,.int .i64 i,.slice A Q.length c] 37));have hb1:=words.b1 hW1;have hk1:W1.heap[w.heap.size]?=some (.cells #[.int .i64 K,.int .i64 l,.int .i64 i,.slice A Q.length c] 37 (0,0)):=by rw [hW1];exact heap_alloc_new w _
 have HC:=hid (Jff A c Q W1 ((hp.keep hb1).more hb1.size) hz hq);have k3:=Jaa hk1 3;have HK1:=hid hk1;have HB1:=hid hb1;have HW1:=hid hW1;have HWk:=hid hw;clear hW1 hb1 hk1 hw hp hz;go_enter func65,ntmps65
 go_upto_region 1 with fail
 rw [←HW1.out];clear HW1;go_wp2_with fail
 refine HC.out.mono ?_;rintro e w2 ⟨⟨A2,c2,rfl,hp2,hc2,hz2,hhi⟩,hb2⟩;have hk2:=(hb2.block _ (lt_of_some HK1.out)).trans HK1.out;have y3:=Jaa hk2 3;have y4:=Jab hk2 3;obtain⟨W3,hW3⟩:=words.nm (w2.setCell ⟨w.heap.size,3,none⟩ (.slice A2 Q.length c2));have hk3:W3.heap[w.heap.size]?=some (.cells #[.int .i64 K,.int .i64 l,.int .i64 i,.slice A2 Q.length c2] 37 (0,0)):=by
  rw [hW3,heap_setCell_same w2 w.heap.size 3 _ _ (.slice A2 Q.length c2) hk2];rfl
 have hb3:Below w.heap.size w W3:=by rw [hW3];exact (HB1.out.trans (hb2.mono HB1.out.size)).setCell (p:=⟨w.heap.size,3,none⟩) (Nat.le_refl _) _
 have hfb:=lt_of_some HK1.out;have hp3:Plc W3 W3.heap.size A2 Q:=fun i x hx=>by
  obtain⟨b,off,e1,e2,e3,e4⟩:=hp2 i x hx;have e5:=hhi _ _ _ e1;have e6:W3.heap[b]?=w2.heap[b]?:=by rw [hW3];exact heap_setCell_other _ _ _ _ (show b≠w.heap.size by omega)
  exact⟨b,off,e1,by rw [hW3];simpa using e2,(World.cell?_of_block e6).trans e3,(World.cell?_of_block e6).trans e4⟩
 obtain⟨Aw,cw,Ap,cp,hg,hcw,hcp,hway,hrow⟩:=(HWk.out.later hb3).ex;obtain⟨bw,ow,_,_,hAw,_⟩:=hway ts.length t (by simp);subst hAw;obtain⟨olds,hol,hold⟩:=Jps hway;obtain⟨bp,op,hAp,hbp,hp0⟩:=hrow 0 p rfl;rw [Nat.add_zero] at hp0;obtain⟨n,hn⟩:=words.nm (ts.length+1);have hln:(ts++[t]).length=n:=by rw [hn];simp
 rw [hln] at hg hcw;rw [List.length_cons] at hg hcp;have hnl:n≤1000001:=by omega
 have hcut:=Jm4 (some ⟨bw,ow,none⟩) n cw hcw;have hgb:g<W3.heap.size:=lt_of_some hg;have HAT:Hid (Calls prog 61 #[.pointer (some ⟨g,0,none⟩)] W3.drew fun e w''=>(∃A c,e= .returned (.agg #[.string t.S,.int .i64 t.K,.int .i64 t.l,.int .i64 t.i,.slice A t.Q.length c]))∧Below W3.heap.size W3 w''):=hid ((Jnh W3.drew g ts t (p::ps) f h (HWk.out.later hb3.drew) (by omega)).mono fun e w'' ⟨⟨A,c,e1,_⟩,e2⟩=>⟨⟨A,c,e1⟩,(Below.refl _ _).drew.trans e2⟩);have HCH:Hid (∀w':World,Calls prog 84 #[.string t.S,.string p] w' fun e w''=>e= .returned (.string (childS t.S p))∧w'=w''):=hid fun w'=>Jpn t.S p w' h1 h2;have HCE:Hid (∀w':World,Below W3.heap.size W3 w'→w'.cell? ⟨g,0,none⟩=some (.slice (some ⟨bw,ow,none⟩) n cw)∧w'.cell? ⟨g,1,none⟩=some (.slice Ap (ps.length+1) cp)∧w'.cell? ⟨bp,op,none⟩=some (.string p)∧w'.cell? ⟨w.heap.size,0,none⟩=some (.int .i64 K)∧w'.cell? ⟨w.heap.size,1,none⟩=some (.int .i64 l)∧w'.cell? ⟨w.heap.size,2,none⟩=some (.int .i64 i)∧w'.cell? ⟨w.heap.size,3,none⟩=some (.slice A2 Q.length c2)):=hid fun w' hb=>by
  have e1:=(hb.block _ hgb).trans hg;have e2:=(hb.block _ (lt_of_some hk3)).trans hk3;exact⟨Jaa e1 0,Jaa e1 1,(hb.cell (p:=⟨bp,op,none⟩) hbp).trans hp0,Jaa e2 0,Jaa e2 1,Jaa e2 2,Jaa e2 3⟩
 have HOLD:Hid (∀w':World,Below W3.heap.size W3 w'→∀j u,olds[j]?=some u→w'.cell? ((⟨bw,ow,none⟩:Addr).add j)=some u):=hid fun w' hb j u hj=>by
  have e1:=hold j u hj;obtain⟨k,r,hjr,hr⟩:∃k r,j=k*5+r∧r<5:=⟨j / 5,j % 5,by omega,by omega⟩
  have hjl:=(List.getElem?_eq_some_iff.1 hj).1;rw [hol.1,hln] at hjl;obtain⟨x,hx⟩:∃x,(ts++[t])[k]?=some x:=⟨_,List.getElem?_eq_getElem (by rw [hln];omega)⟩
  obtain⟨b',o',_,_,e3,e4⟩:=hway k x hx;injection e3 with e3;injection e3 with e3;subst e3;rw [Jas];exact (hb.cell (p:=⟨bw,ow+j,none⟩) e4.lt).trans e1
 have HOlen:Hid (olds.length=n*5):=hid (by rw [hol.1,hln]);obtain⟨iT,hiT,zT0,zT1,zT2⟩:=info_parts infoTg;have v0:=(HCE.out W3 (Below.refl _ _)).1;have HW3:=hid hW3.symm;have HB3:=hid hb3;have HG:=hid hg;have HOl:=hid hol;have HP3:=hid hp3;have HRow:=hid hrow;have HLn:=hid hln;have HCp:=hid hcp;have HNn:=hid hn;have l0:(0:Int)<(ps.length:Int)+1:=by omega
 subst hAp;clear hp2 hhi hb2 hk2 hW3 hk3 hb3 hp3 hg hway hold hol hbp hp0 hn hgb HC k3 hrow hln hcp;go_upto_region 2 with fail
 rw [HW3.out];clear y3 y4 HW3;have HB0:=hid (show Below W3.heap.size W3 W3.drew from (Below.refl _ _).drew);have hf1:∀(A:Option Addr) (c:Nat) (w':World),Sem.run prog (Instr.field 39 (.agg #[.string t.S,.int .i64 t.K,.int .i64 t.l,.int .i64 t.i,.slice A t.Q.length c]) 0) w'= .ok (.string t.S) w':=fun _ _ _=>by kernel_rfl
 obtain⟨Aq,hAq⟩:∃x,x=(if cp=1 then some (⟨bp,op,none⟩:Addr) else (some (⟨bp,op,none⟩:Addr)).map (·.add 1)):=⟨_,rfl⟩
 have hcut2:∀wx:World,(Instr.slice 47 (.slice (some ⟨bp,op,none⟩) (ps.length+1) cp) (some (.int .i64 1)) none none).run prog wx= .ok (.slice Aq ps.length (cp - 1)) wx:=fun wx=>by
  have h:=Jku (some ⟨bp,op,none⟩) (ps.length+1) cp (by omega) wx;rw [←hAq,Nat.add_sub_cancel] at h;exact h
 have HAq:=hid hAq;clear hAq;go_upto_region 3 with fail
 clear v0;refine held.wpT_start (S:=fun w'=>Below W3.heap.size W3 w') (T:=fun k=>k==24) (by kernel_rfl) ?_;refine held.wpT_take (i:=0) (oi:=⟨some 14,_,_,_,_,_⟩) (v:=?_) rfl (by kernel_rfl) (by kernel_rfl) (by kernel_rfl) (fun _ _ _ h=>h) (Or.inl ⟨by kernel_rfl,?_⟩) ?_
 rotate_left 1
 ·intro _ _;go_simp;(try with_reducible rfl)
 try simp only [words.pt]
 refine held.wpT_take (i:=1) (oi:=⟨some 15,_,_,_,_,_⟩) (v:=?_) rfl (by kernel_rfl) (by kernel_rfl) (by kernel_rfl) (fun _ _ _ h=>h) (Or.inl ⟨by kernel_rfl,?_⟩) ?_
 rotate_left 1
 ·intro _ _;go_simp;(try with_reducible rfl)
 try simp only [words.pt]
 refine held.wpT_take (i:=2) (oi:=⟨some 16,_,_,_,_,_⟩) (v:=?_) rfl (by kernel_rfl) (by kernel_rfl) (by kernel_rfl) (fun _ _ _ h=>h) (Or.inl ⟨by kernel_rfl,?_⟩) ?_
 rotate_left 1
 ·intro _ _;go_simp;(try with_reducible rfl)
 try simp only [words.pt]
 refine held.wpT_take (i:=3) (oi:=⟨some 17,_,_,_,_,_⟩) (v:=?_) rfl (by kernel_rfl) (by kernel_rfl) (by kernel_rfl) (fun _ _ _ h=>h) (Or.inl ⟨by kernel_rfl,?_⟩) ?_
 rotate_left 1
 ·intro _ _;go_simp;(try with_reducible rfl)
 try simp only [words.pt]
 refine held.wpT_load (i:=4) (oi:=⟨some 18,_,_,_,_,_⟩) (v:=?_) rfl (by kernel_rfl) (by kernel_rfl) (by kernel_rfl) (fun _ _ _ h=>h) (by kernel_rfl) (Or.inl ⟨by kernel_rfl,?_⟩) HB0.out ?_
 rotate_left 1
 focus (intro w' hSw;obtain⟨e0,e1,e2,e3,e4,e5,e6⟩:=HCE.out w' hSw;clear hSw;go_simp;(try with_reducible rfl))
 try simp only [words.pt]
 refine held.wpT_take (i:=5) (oi:=⟨some 19,_,_,_,_,_⟩) (v:=?_) rfl (by kernel_rfl) (by kernel_rfl) (by kernel_rfl) (fun _ _ _ h=>h) (Or.inl ⟨by kernel_rfl,?_⟩) ?_
 rotate_left 1
 ·intro _ _;go_simp;(try with_reducible rfl)
 try simp only [words.pt]
 refine held.wpT_take (i:=6) (oi:=⟨some 20,_,_,_,_,_⟩) (v:=?_) rfl (by kernel_rfl) (by kernel_rfl) (by kernel_rfl) (fun _ _ _ h=>h) (Or.inl ⟨by kernel_rfl,?_⟩) ?_
 rotate_left 1
 ·intro _ _;go_simp;(try with_reducible rfl)
 try simp only [words.pt]
 refine held.wpT_take (i:=7) (oi:=⟨some 21,_,_,_,_,_⟩) (v:=?_) rfl (by kernel_rfl) (by kernel_rfl) (by kernel_rfl) (fun _ _ _ h=>h) (Or.inl ⟨by kernel_rfl,?_⟩) ?_
 rotate_left 1
 ·intro _ _;go_simp;(try with_reducible rfl)
 try simp only [words.pt]
 refine held.wpT_take (i:=8) (oi:=⟨some 22,_,_,_,_,_⟩) (v:=?_) rfl (by kernel_rfl) (by kernel_rfl) (by kernel_rfl) (fun _ _ _ h=>h) (Or.inl ⟨by kernel_rfl,?_⟩) ?_
 rotate_left 1
 ·intro _ _;go_simp;(try with_reducible rfl)
 try simp only [words.pt]
 refine held.wpT_take (i:=11) (oi:=⟨some 25,_,_,_,_,_⟩) (v:=?_) rfl (by kernel_rfl) (by kernel_rfl) (by kernel_rfl) (fun _ _ _ h=>h) (Or.inl ⟨by kernel_rfl,?_⟩) ?_
 rotate_left 1
 ·intro _ _;go_simp;(try with_reducible rfl)
 try simp only [words.pt]
 refine held.wpT_take (i:=12) (oi:=⟨some 26,_,_,_,_,_⟩) (v:=?_) rfl (by kernel_rfl) (by kernel_rfl) (by kernel_rfl) (fun _ _ _ h=>h) (Or.inl ⟨by kernel_rfl,?_⟩) ?_
 rotate_left 1
 ·intro _ _;go_simp;(try with_reducible rfl)
 try simp only [words.pt]
 refine held.wpT_take (i:=13) (oi:=⟨some 27,_,_,_,_,_⟩) (v:=?_) rfl (by kernel_rfl) (by kernel_rfl) (by kernel_rfl) (fun _ _ _ h=>h) (Or.inl ⟨by kernel_rfl,?_⟩) ?_
 rotate_left 1
 ·intro _ _;go_simp;(try with_reducible rfl)
 try simp only [words.pt]
 refine held.wpT_load (i:=14) (oi:=⟨some 28,_,_,_,_,_⟩) (v:=?_) rfl (by kernel_rfl) (by kernel_rfl) (by kernel_rfl) (fun _ _ _ h=>h) (by kernel_rfl) (Or.inl ⟨by kernel_rfl,?_⟩) HB0.out ?_
 rotate_left 1
 focus (intro w' hSw;obtain⟨e0,e1,e2,e3,e4,e5,e6⟩:=HCE.out w' hSw;clear hSw;go_simp;(try with_reducible rfl))
 try simp only [words.pt]
 refine held.wpT_take (i:=15) (oi:=⟨some 29,_,_,_,_,_⟩) (v:=?_) rfl (by kernel_rfl) (by kernel_rfl) (by kernel_rfl) (fun _ _ _ h=>h) (Or.inl ⟨by kernel_rfl,?_⟩) ?_
 rotate_left 1
 ·intro _ _;go_simp;(try with_reducible rfl)
 try simp only [words.pt]
 refine held.wpT_load (i:=16) (oi:=⟨some 30,_,_,_,_,_⟩) (v:=?_) rfl (by kernel_rfl) (by kernel_rfl) (by kernel_rfl) (fun _ _ _ h=>h) (by kernel_rfl) (Or.inl ⟨by kernel_rfl,?_⟩) HB0.out ?_
 rotate_left 1
 focus (intro w' hSw;obtain⟨e0,e1,e2,e3,e4,e5,e6⟩:=HCE.out w' hSw;clear hSw;go_simp;(try with_reducible rfl))
 try simp only [words.pt]
 refine held.wpT_load (i:=18) (oi:=⟨some 32,_,_,_,_,_⟩) (v:=?_) rfl (by kernel_rfl) (by kernel_rfl) (by kernel_rfl) (fun _ _ _ h=>h) (by kernel_rfl) (Or.inl ⟨by kernel_rfl,?_⟩) HB0.out ?_
 rotate_left 1
 focus (intro w' hSw;obtain⟨e0,e1,e2,e3,e4,e5,e6⟩:=HCE.out w' hSw;clear hSw;go_simp;(try with_reducible rfl))
 try simp only [words.pt]
 refine held.wpT_one (i:=9) (by kernel_rfl) rfl (fun Kc hK=>?_);go_simp
 go_at_call 61
 refine HAT.out.mono ?_;rintro e w4 ⟨⟨A4,c4,rfl⟩,hb4⟩;have HB4:=hid hb4;clear hb4;refine hK.out _ _ (fun _ _=>HB4.out) ?_;clear hK;try simp only [words.pt]
 refine held.wpT_take (i:=10) (oi:=⟨some 24,_,_,_,_,_⟩) (v:=?_) rfl (by kernel_rfl) (by kernel_rfl) (by kernel_rfl) (fun _ _ _ h=>h) (Or.inl ⟨by kernel_rfl,?_⟩) ?_
 rotate_left 1
 ·intro _ _;go_simp;(try with_reducible rfl)
 try simp only [words.pt]
 refine held.wpT_one (i:=17) (by kernel_rfl) rfl (fun Kc hK=>?_);go_simp
 go_at_call 84
 refine (HCH.out _).mono ?_;rintro e wx ⟨rfl,rfl⟩;refine hK.out _ _ (fun _ h=>h) ?_;clear hK;try simp only [words.pt]
 refine held.wpT_take (i:=19) (oi:=⟨some 33,_,_,_,_,_⟩) (v:=?_) rfl (by kernel_rfl) (by kernel_rfl) (by kernel_rfl) (fun _ _ _ h=>h) (Or.inl ⟨by kernel_rfl,?_⟩) ?_
 rotate_left 1
 ·intro _ _;go_simp;(try with_reducible rfl)
 try simp only [words.pt]
 obtain⟨W5,hW5⟩:=words.nm (w4.alloc (.cells #[.string (childS t.S p),.int .i64 K,.int .i64 l,.int .i64 i,.slice A2 Q.length c2] 39));have HB5:Hid (Below W3.heap.size W3 W5):=hid (by rw [hW5];exact HB4.out.alloc HB4.out.size _);have HK5:Hid (W5.heap[w4.heap.size]?=some (.cells #[.string (childS t.S p),.int .i64 K,.int .i64 l,.int .i64 i,.slice A2 Q.length c2] 39 (0,0))):=hid (by rw [hW5];exact heap_alloc_new w4 _);refine held.wpT_one (i:=20) (by kernel_rfl) rfl (fun Kc hK=>?_);go_simp
 rw [←hW5];refine hK.out _ _ (fun _ _=>HB5.out) ?_;clear hK hW5;try simp only [words.pt]
 refine held.wpT_one (i:=21) (by kernel_rfl) rfl (fun Kc hK=>?_);refine step_append_grows rfl (.tmp 21) (.tmp 34) 142 rfl 39 iT _ 5 64 underlying142 hiT zT0 zT1 zT2 rfl (by omega) (some ⟨bw,ow,none⟩) n n olds (by simp [Act.eval]) (fun h=>by cases h) HOlen.out (fun b hb j u hj=>by injection hb with hb;subst hb;exact HOLD.out _ HB5.out j u hj) ⟨w4.heap.size,0,none⟩ 1 1 [.string (childS t.S p),.int .i64 K,.int .i64 l,.int .i64 i,.slice A2 Q.length c2] (by simp [Act.eval]) (by rfl) (World.news_of_block HK5.out) (by simp [Value.oneCell']) (by omega) (by simp only [maxLen];omega) (by omega) ?_;intro v5 w5 hown5 hgrow5;obtain⟨A5,c5,rfl,hc5,_⟩:=tre.own_facts hown5;have hb5:Below W3.heap.size W3 w5:=HB5.out.trans ((Jmi hgrow5).mono HB5.out.size);have hg5:=(hb5.block _ (lt_of_some HG.out)).trans HG.out;have x5:=Jaa hg5 0;have f5:=Jab hg5 0;have HB6:=hid hb5;have HG5:=hid hg5;have HOwn:=hid hown5;clear hown5 hgrow5 hb5 hg5;refine hK.out _ _ (fun _ _=>HB6.out) ?_;clear hK;try simp only [Act.put,List.setIfInBounds_toArray]
 refine held.wpT_take (i:=22) (oi:=⟨some 36,_,_,_,_,_⟩) (v:=?_) rfl (by kernel_rfl) (by kernel_rfl) (by kernel_rfl) (fun _ _ _ h=>h) (Or.inl ⟨by kernel_rfl,?_⟩) ?_
 rotate_left 1
 ·intro _ _;go_simp;(try with_reducible rfl)
 try simp only [Act.put]
 refine held.wpT_take (i:=23) (oi:=⟨some 37,_,_,_,_,_⟩) (v:=?_) rfl (by kernel_rfl) (by kernel_rfl) (by kernel_rfl) (fun _ _ _ h=>h) (Or.inl ⟨by kernel_rfl,?_⟩) ?_
 rotate_left 1
 ·intro _ _;go_simp;(try with_reducible rfl)
 try simp only [Act.put]
 obtain⟨W6,hW6⟩:=words.nm (w5.setCell ⟨g,0,none⟩ (.slice A5 (n+1) c5));have HW6:=hid hW6;clear hW6;refine held.wpT_one (i:=24) (by kernel_rfl) rfl (fun Kc hK=>?_);go_simp
 rw [←HW6.out];refine hK.out _ _ (fun h=>absurd h (by decide)) ?_;clear hK x5 f5;try simp only [words.pt]
 refine held.wpT_done (by kernel_rfl) ?_ _;have hlen2:(ts++[t]++[(⟨childS t.S p,K,l,i,Q⟩:Tg)]).length=n+1:=by rw [List.length_append,HLn.out];rfl
 have hway5:Way w5 w5.heap.size A5 (ts++[t]++[(⟨childS t.S p,K,l,i,Q⟩:Tg)]):=Jr2 HOwn.out ((HOl.out.keep HB6.out).more HB6.out.size |>.snoc (t:=⟨childS t.S p,K,l,i,Q⟩) ((HP3.out.keep HB6.out).more HB6.out.size) hc2 hz2);have hrow5:=(Tur.below (g:=g) HB6.out).row HG.out HRow.out;have hT56:Tur g w5 W6:=by rw [HW6.out];exact (Tur.refl g w5).set 0 _
 have hg6:W6.heap[g]?=some (wkC (.slice A5 (n+1) c5) (.slice (some ⟨bp,op,none⟩) (ps.length+1) cp) f (h:Int)):=by
  rw [HW6.out,heap_setCell_same w5 g 0 _ _ (.slice A5 (n+1) c5) HG5.out];rfl
 have hway6:=hT56.way HG5.out hway5;have hrow6:=Jif (hT56.row HG5.out hrow5) HCp.out;rw [←HAq.out] at hrow6;have hgo:=Jfc W6 g A5 (some ⟨bp,op,none⟩) Aq c5 (ps.length+1) cp (cp - 1) (ts++[t]++[(⟨childS t.S p,K,l,i,Q⟩:Tg)]) ps f h (by rw [hlen2];exact hg6) (by rw [hlen2];exact hc5) (by have:=HCp.out;omega) hway6 hrow6 (by rw [hlen2];omega) (by rw [hlen2];omega);rw [hlen2] at hgo;have HGo:=hid hgo;have HT6:=hid ((Tur.below (g:=g) (HB3.out.trans (HB6.out.mono HB3.out.size))).trans hT56);have q1:W6.cell? ⟨g,1,none⟩=some (.slice (some ⟨bp,op,none⟩) (ps.length+1) cp):=Jaa hg6 1;clear hway5 hrow5 hT56 hg6 hway6 hrow6 hgo hlen2;go_wp2_with fail
 refine HGo.out.mono ?_;rintro e w7 ⟨⟨u,rfl⟩,hwk7,ht7⟩;have HF:=hid (show Wkr w7 g ((ts++[t]++[(⟨childS t.S p,K,l,i,Q⟩:Tg)]).take (upK (ts.length+2) ps)) (restP ps) f h∧Tur g w w7 from⟨by have:=hwk7;rw [show ts.length+2=n+1 by rw [HNn.out]];exact this,HT6.out.trans ht7⟩);clear hwk7 ht7;go_wp2_with fail
 go_end0
 exact⟨⟨_,rfl⟩,HF.out⟩

theorem Jbb {w:World} {A:Option Addr} {N:List ByteArray} (h:heap.Row w w.heap.size A N):Lies w A (N.map Value.string):=fun j u hj=>by
 rw [List.getElem?_map] at hj;rcases e:N[j]? with _ |x
 ·rw [e] at hj;cases hj
 ·rw [e] at hj
  obtain rfl:Value.string x=u:=by simpa using hj
  exact h j x e
theorem Jaz {w:World} {B n l c:Nat} {A:Option Addr} {N:List ByteArray} (h:w.ownsRow B 9 1 (.slice A l c) n (N.map Value.string)):heap.Row w w.heap.size A N:=fun i s hs=>by
 obtain⟨g,cap,e,_,h2,_,_,h3,_⟩:=heap.own_cell h (show (N.map Value.string)[i]?=some (.string s) by rw [List.getElem?_map,hs];rfl);injection e with e1 e2 e3;exact⟨g,0,e1,h2,by rw [Nat.zero_add];exact h3⟩
def Owned (w:World) (B:Nat) (n:Nat) (v:Value) (L:List ByteArray):Prop:=w.ownsRow B 9 1 v n (L.map Value.string)
def Grown (w:World) (e:Ending) (w':World):Prop:=∃v,e= .returned v∧Owned w' w.heap.size 0 v []∧Below w.heap.size w w'
def Slcs (w:World) (B:Nat) (A:Option Addr) (Ls:List (List ByteArray)):Prop:=
 ∀(i:Nat) (l:List ByteArray),Ls[i]?=some l→∃b off Ai ci,A=some ⟨b,off,none⟩∧b<B∧w.cell? ⟨b,off+i,none⟩=some (.slice Ai l.length ci)∧heap.Row w B Ai l∧(Ai=none→l.length=0∧ci=0)
def Joined (w:World) (L:List ByteArray) (e:Ending) (w':World):Prop:=∃A c,e= .returned (.slice A L.length c)∧L.length≤c∧heap.Row w' w'.heap.size A L∧Below w.heap.size w w'
structure InC (w:World) (L:List ByteArray) (v:Value) (wr:World):Prop where
 own:Owned wr w.heap.size L.length v L
 below:Below w.heap.size w wr
theorem InC.fin {w wr:World} {L:List ByteArray} {v:Value} (h:InC w L v wr):Joined w L (.returned v) wr:=by
 obtain⟨A,c,rfl,hc,_⟩:=tre.own_facts h.own;exact⟨A,c,rfl,hc,Jaz h.own,h.below⟩
theorem Jhn (n:Nat) (w:World) (hn:n≤100000000):Calls prog 131 #[.slice none 0 0,.int .i64 (n:Int)] w (Grown w):=by
 obtain⟨i0,hi,hz0,hy1,hy2⟩:=info_parts infoStr;rcases Nat.eq_zero_or_pos n with rfl |hpos
 ·have HE:Hid (Grown w (.returned (.slice none 0 0)) w):=hid ⟨_,rfl,World.ownsRow_nil _ _ _ _,Below.refl _ _⟩
  go_enter func131,ntmps131
  go_wp2_with fail
  go_ret
  exact HE.out
 ·have h:=fun ty=>Lib.run_append_nil_zeros w 47 3 ty 9 i0 (.string ⟨#[]⟩) .i64 .i64 underlying47 underlying3 hi hz0 n hpos (by omega) (by omega) (by rw [hy2];omega)
  obtain⟨G,hG⟩:=words.nm (grownCap w n 0 9);obtain⟨cs,hcs⟩:=words.nm (Builtin.zeroCells (Value.string ⟨#[]⟩).cells n++Builtin.zeroCells (Value.string ⟨#[]⟩).cells (G - n));have hGn:n≤G:=by rw [hG];exact grownCap_ge w _ _ _
  have hGm:G≤maxLen:=by rw [hG];exact grownCap_le_maxLen w n 0 _ (by unfold maxLen;omega)
  rw [←hG,←hcs] at h;have hsz:cs.size=G*1:=by rw [hcs];simp [Builtin.zeroCells,Value.cells];omega
  have hown:(w.drew.alloc (.cells cs 9)).ownsRow w.heap.size 9 1 (.slice (some ⟨w.heap.size,0,none⟩) 0 G) 0 []:=World.ownsRow_made w.drew cs G (Nat.le_refl _) hGm hsz;have HE:Hid (Grown w (.returned (.slice (some ⟨w.heap.size,0,none⟩) 0 G)) (w.drew.alloc (.cells cs 9))):=hid ⟨_,rfl,hown,(Below.refl _ _).drew.alloc (Nat.le_refl _) _⟩;have HH:=hid h;have p0:(0:Int)<(n:Int):=by omega
  have p1:(n:Int)≤100000000:=by omega
  have p2:(G:Int)≤9223372036854775807:=by unfold maxLen at hGm;omega
  clear h hown hG hcs hsz hGm;go_enter func131,ntmps131
  go_wp2_with (at_builtin;refine Lib.wpList_append_run _ rfl _ _ _ _ rfl _ _ rfl rfl _ _ (HH.out _) ?_)
  go_ret
  exact HE.out
theorem Jc5 (A:Option Addr) (c:Nat) (Ls:List (List ByteArray)) (w:World) (hL:Slcs w w.heap.size A Ls) (hn:Ls.length≤10) (ht:∀l∈Ls,l.length≤1000000):
  Calls prog 100 #[.slice A Ls.length c] w (Joined w Ls.flatten):=by
 obtain⟨i0,hi,hz0,hy1,hy2⟩:=info_parts infoStr;have hfl:∀k,k≤Ls.length→(Ls.take k).flatten.length≤k*1000000:=by
  intro k
  induction k with
  |zero=>intro _;simp
  |succ k ih=>
   intro hk;rw [List.take_succ_eq_append_getElem (by omega),List.flatten_append,List.length_append,List.flatten_cons,List.flatten_nil,List.append_nil,Nat.succ_mul];have h1:=ih (by omega);have h2:=ht Ls[k] (List.getElem_mem _);omega
 have HL:=hid hL;have HFl:=hid hfl;have HT:=hid ht;clear hL hfl ht;go_enter func100,ntmps100
 go_wp2_with fail
 go_loop [11,3] (fun v v3=>∃k s:Nat,v= .int .i64 (k:Int)∧k≤Ls.length∧v3= .int .i64 (s:Int)∧s=(Ls.take k).flatten.length) (fun v _=>Ls.length - (intOf v).toNat)
 case atStart=>exact⟨0,0,rfl,Nat.zero_le _,rfl,rfl⟩
 case round=>
  obtain⟨k,s,rfl,hk,rfl,hs⟩:=hrel;have hsb:=HFl.out k hk;rw [←hs] at hsb;have HS:=hid hs;clear hs;by_cases hlt:k<Ls.length
  ·obtain⟨l,hl⟩:∃l,Ls[k]?=some l:=⟨_,List.getElem?_eq_getElem hlt⟩
   obtain⟨b,off,Ai,ci,hA,hB,c0,_⟩:=HL.out k l hl;subst hA;have hll:=HT.out l (List.mem_of_getElem? hl);have i0':(0:Int)≤(k:Int):=by omega
   have i1:(k:Int)<(Ls.length:Int):=by omega
   have i2:(s:Int)≤10000000:=by omega
   have i3:(l.length:Int)≤1000000:=by omega
   have HN:=hid (show s+l.length=(Ls.take (k+1)).flatten.length by
     obtain⟨hk',rfl⟩:=List.getElem?_eq_some_iff.1 hl;rw [List.take_succ_eq_append_getElem hk',List.flatten_append,List.length_append,←HS.out];simp)
   clear hl;go_wp2_with fail
   go_round
   case rel=>exact⟨k+1,s+l.length,by go_num,by omega,by go_num,HN.out⟩
   case measure=>simp [intOf];omega
  ·obtain rfl:k=Ls.length:=by omega
   have hse:s=Ls.flatten.length:=by rw [HS.out,List.take_length]
   have HG:=hid (Jhn s w (by omega));have i2:(s:Int)≤10000000:=by omega
   clear hse;go_wp2_with fail
   refine HG.out.mono ?_;rintro e w1 ⟨v1,rfl,hown1,hb1⟩;have HI:Hid (InC w (Ls.take 0).flatten v1 w1):=hid ⟨hown1,hb1⟩;clear hown1 hb1 HG;go_wp2_with fail
   go_loopw [27,6] (fun v v6 wr=>∃k:Nat,v= .int .i64 (k:Int)∧k≤Ls.length∧Hid (InC w (Ls.take k).flatten v6 wr)) (fun v _ _=>Ls.length - (intOf v).toNat)
   case atStart=>exact⟨0,rfl,Nat.zero_le _,HI⟩
   case round=>
    obtain⟨k,rfl,hk2,HC⟩:=hrel;by_cases hlt2:k<Ls.length
    ·obtain⟨l,hl⟩:∃l,Ls[k]?=some l:=⟨_,List.getElem?_eq_getElem hlt2⟩
     obtain⟨b,off,Ai,ci,hA,hB,c0,hsl⟩:=HL.out k l hl;subst hA;have hll:=HT.out l (List.mem_of_getElem? hl);have hkb:=HFl.out k hk2;have cw:wr.cell? ⟨b,off+k,none⟩=some (.slice Ai l.length ci):=(HC.out.below.cell (p:=⟨b,off+k,none⟩) hB).trans c0;have i0':(0:Int)≤(k:Int):=by omega
     have i1:(k:Int)<(Ls.length:Int):=by omega
     have hlies:=Jbb ((hsl.1.keep HC.out.below).more HC.out.below.size);have HLi:=hid hlies;have HNil:=hid (show Ai=none→l.length=0∧ci=0 from fun e=>by exact hsl.2 e);have HOw:=hid HC.out.own;have HB:=hid HC.out.below;have HZ:=hid HC.out.below.size;have HE:=hid (show (Ls.take (k+1)).flatten=(Ls.take k).flatten++l by
       obtain⟨hk',rfl⟩:=List.getElem?_eq_some_iff.1 hl;rw [List.take_succ_eq_append_getElem hk',List.flatten_append];simp)
     unfold Owned at HOw;clear hl hsl hlies c0;go_wp2_with (at_builtin;refine Jaf rfl (.tmp 31) (.tmp 32) 47 rfl w.heap.size 9 i0 _ 1 16 underlying47 hi hz0 hy1 hy2 rfl (by omega) u6 (Ls.take k).flatten.length ((Ls.take k).flatten.map Value.string) rfl HOw.out Ai l.length ci (l.map Value.string) HNil.out rfl (by rw [List.length_map,Nat.mul_one]) HLi.out (Jbt l) (by simp only [maxLen];omega) (by omega) HZ.out ?_;intro v5 w5 hown5 hgrow5)
     have HN:Hid (InC w (Ls.take (k+1)).flatten v5 w5):=hid ⟨by
       unfold Owned;rw [HE.out,List.length_append,List.map_append];exact hown5,HB.out.trans ((Kept.refl (fun t=>t=9) w.heap.size wr |>.grown hgrow5 HOw.out (Nat.le_refl _) rfl).below HZ.out)⟩
     clear hown5 hgrow5;go_roundw
     case rel=>exact⟨k+1,by go_num,by omega,HN⟩
     case measure=>simp [intOf];omega
    ·obtain rfl:k=Ls.length:=by omega
     have hf:=HC.out;rw [List.take_length] at hf;have HF:=hid hf.fin;clear hf HC;go_wp2_with fail
     go_ret
     exact HF.out

def Hopped (g:Nat) (ts:List Tg) (ps:List ByteArray) (f:Bool) (h:Nat) (x:ByteArray) (w:World) (e:Ending) (w':World):Prop:=
 (40≤h∧e= .returned (.int .i64 4)∧Below w.heap.size w w')∨
 (¬40≤h∧parts x.data.toList=none∧e= .returned (.int .i64 1)∧Below w.heap.size w w')∨
 (¬40≤h∧∃Q:List ByteArray,parts x.data.toList=some (Q.map fun y=>y.data.toList)∧e= .returned (.int .i64 0)∧
   Wkr w' g ((if (x.data.toList.head?==some 47)=true then ts.take 1 else ts).take (upK (if (x.data.toList.head?==some 47)=true then ts.take 1 else ts).length (Q++ps))) (restP (Q++ps)) f (h+1)∧Tur g w w')
theorem Jsn (w:World) (g:Nat) (ts:List Tg) (p:ByteArray) (ps:List ByteArray) (f:Bool) (h:Nat) (x:ByteArray) (m:Int) (hw:Wkr w g ts (p::ps) f h) (hm:w.cell? ⟨0,0,none⟩=some (.int .i64 m)) (hx:x.size≤1000000000)
  (hl:1≤ts.length) (hl2:ts.length≤1000000000) (hps:ps.length≤1000000) (hqs:∀Q:List ByteArray,parts x.data.toList=some (Q.map fun y=>y.data.toList)→Q.length≤1000000) (hh:h≤1000000):
  Calls prog 66 #[.pointer (some ⟨g,0,none⟩),.string x] w (Hopped g ts ps f h x w):=by
 obtain⟨A,c,Ap,cp,hg,hc,hcp,hway,hrow⟩:=hw.ex;obtain⟨bp,op,hAp,hbp,hp0⟩:=hrow 0 p rfl;subst hAp;rw [List.length_cons] at hg hcp;obtain⟨hI,hHI⟩:∃hI:Int,hI=(h:Int):=⟨_,rfl⟩
 rw [←hHI] at hg;obtain⟨Ap2,hAp2⟩:∃z,z=(if cp=1 then some (⟨bp,op,none⟩:Addr) else (some (⟨bp,op,none⟩:Addr)).map (·.add 1)):=⟨_,rfl⟩
 have hcut2:∀wx:World,(Instr.slice 47 (.slice (some ⟨bp,op,none⟩) (ps.length+1) cp) (some (.int .i64 1)) none none).run prog wx= .ok (.slice Ap2 ps.length (cp - 1)) wx:=fun wx=>by
  have h:=Jku (some ⟨bp,op,none⟩) (ps.length+1) cp (by omega) wx;rw [←hAp2,Nat.add_sub_cancel] at h;exact h
 have HNp:Hid (Ap2=none→ps.length=0∧cp - 1=0):=hid fun e=>by
  rw [hAp2] at e;split at e<;>cases e
 have y3:w.cell? ⟨g,3,none⟩=some (.int .i64 hI):=Jaa hg 3;have HAp:=hid hAp2;have HHi:=hid hHI;have HCp:=hid hcp;have HC2:=hid (And.intro hc (And.intro hl hl2));have HG:=hid hg;have HWay:=hid hway;have HRow:=hid hrow;have HPl:=hid hps;have HS:=hid (Jfz x m w (by omega) hm);have hi0:0≤hI:=by omega
 have hi1:hI≤1000000:=by omega
 have c1:1≤c:=by omega
 clear hw hg hway hrow hbp hp0 hcp hAp2 hHI hm hx hps;by_cases h40:40≤hI
 ·have HF:=hid (show 40≤h by have:=HHi.out;omega)
  go_enter func66,ntmps66
  go_wp2_with fail
  go_ret
  exact .inl ⟨HF.out,rfl,Below.refl _ _⟩
 ·have HNo:=hid (show ¬40≤h by have:=HHi.out;omega)
  have w8:IntKind.i64.wrap (hI+1)=hI+1:=IntWalk.i64_in _ (by omega);go_enter func66,ntmps66
  go_upto_region 3 with fail
  clear y3;go_wp2_with fail
  refine HS.out.mono ?_;rintro e w1 ⟨(⟨hpn,rfl⟩ |⟨v,Q,hpa,rfl,hown⟩),hb1⟩
  ·have HF:=hid (And.intro hpn hb1)
   clear hpn hb1;go_wp2_with fail
   go_ret
   exact .inr (.inl ⟨HNo.out,HF.out.1,rfl,HF.out.2⟩)
  ·obtain⟨Aq,cq,rfl,hcq,hzq⟩:=tre.own_facts hown
   have HNil:=hid hzq;have HPa:=hid hpa;have HQl:=hid (hqs Q hpa);have hQ1:=Jaz hown;have hg1:=(hb1.block _ (lt_of_some HG.out)).trans HG.out;have hway1:=(Tur.below (g:=g) hb1).way HG.out HWay.out;have hrow1:=(Tur.below (g:=g) hb1).row HG.out HRow.out;have hT1:=Tur.below (g:=g) hb1;have HNn:=hid hl;clear hpa hown hb1 hqs hcq hzq HS;rcases hrt:(x.data.toList.head?==some 47) with _ |_
   ·have HRt:=hid hrt
    have hg2:=hg1;have hway2:=hway1;have hrow2:=hrow1;have hQ2:=hQ1;have hT2:=hT1;clear hg1 hway1 hrow1 hQ1 hT1 hrt hl hl2 hc;have y3:w1.cell? ⟨g,3,none⟩=some (.int .i64 hI):=Jaa hg2 3;have f3:=Jab hg2 3;obtain⟨W3,hW3⟩:=words.nm (w1.setCell ⟨g,3,none⟩ (.int .i64 (hI+1)));have hg3:W3.heap[g]?=some (wkC (.slice A (ts).length c) (.slice (some ⟨bp,op,none⟩) (ps.length+1) cp) f (hI+1)):=by
     rw [hW3,heap_setCell_same w1 g 3 _ _ (.int .i64 (hI+1)) hg2];rfl
    have hT23:Tur g w1 W3:=by rw [hW3];exact (Tur.refl g w1).set 3 _
    have hway3:=hT23.way hg2 hway2;have hrow3:=hT23.row hg2 hrow2;have hQ3:=hT23.row hg2 hQ2;obtain⟨W4,hW4⟩:=words.nm (W3.alloc (.cells #[.slice Aq Q.length cq,.slice Ap2 ps.length (cp - 1)] 47));have hb4:Below W3.heap.size W3 W4:=words.b1 hW4;have hk4:W4.heap[W3.heap.size]?=some (.cells #[.slice Aq Q.length cq,.slice Ap2 ps.length (cp - 1)] 47 (0,0)):=by rw [hW4];exact heap_alloc_new W3 _
    have hq4:=(hQ3.keep hb4).more hb4.size;have hp4:=((Jif hrow3 HCp.out).keep hb4).more hb4.size;rw [←HAp.out] at hp4;have hS:Slcs W4 W4.heap.size (some ⟨W3.heap.size,0,none⟩) [Q,ps]:=fun i l hl=>by
     rcases i with _ |_ |i
     ·obtain rfl:Q=l:=by simpa using hl
      exact⟨_,0,Aq,cq,rfl,lt_of_some hk4,Jaa hk4 0,hq4,HNil.out⟩
     ·obtain rfl:ps=l:=by simpa using hl
      exact⟨_,0,Ap2,cp - 1,rfl,lt_of_some hk4,Jaa hk4 1,hp4,HNp.out⟩
     ·simp at hl
    obtain⟨R,hR⟩:=words.nm (Q++ps);have hC:Calls prog 100 #[.slice (some ⟨W3.heap.size,0,none⟩) 2 2] W4 (Joined W4 R):=by
     have h:=Jc5 (some ⟨W3.heap.size,0,none⟩) 2 [Q,ps] W4 hS (show 2≤10 by decide) (fun l hl=>by
       rcases List.mem_cons.1 hl with rfl |hl
       ·exact HQl.out
       ·obtain rfl:l=ps:=by simpa using hl
        exact HPl.out)
     rw [show [Q,ps].flatten=R by rw [hR];simp] at h;exact h
    have hGO:∀(w5:World) (A5:Option Addr) (c5:Nat),Below W4.heap.size W4 w5→R.length≤c5→heap.Row w5 w5.heap.size A5 R→Calls prog 60 #[.pointer (some ⟨g,0,none⟩),.slice A5 R.length c5] w5 fun e w'=>(∃u,e= .returned u)∧Wkr w' g ((ts).take (upK (ts).length R)) (restP R) f (h+1)∧Tur g w w':=fun w5 A5 c5 hb5 hc5 hr5=>by
     have hb35:=hb4.trans (hb5.mono hb4.size);have hg5:=(hb35.block _ (lt_of_some hg3)).trans hg3;rw [show hI+1=((h+1:Nat):Int) by rw [HHi.out];simp] at hg5;exact (Jfc w5 g A (some ⟨bp,op,none⟩) A5 c (ps.length+1) cp c5 (ts) R f (h+1) hg5 (by have:=HC2.out;omega) hc5 ((Tur.below (g:=g) hb35).way hg3 hway3) hr5 (by have:=HC2.out;omega) (by have:=HC2.out;omega)).mono fun e w' ⟨h1,h2,h3⟩=>⟨h1,h2,(hT2.trans (hT23.trans (Tur.below hb35))).trans h3⟩
    have x1:W3.cell? ⟨g,1,none⟩=some (.slice (some ⟨bp,op,none⟩) (ps.length+1) cp):=Jaa hg3 1;have HC:=hid hC;have HGO:=hid hGO;have HR:=hid hR;have HW3:=hid hW3;have HW4:=hid hW4;clear hg2 hway2 hrow2 hQ2 hT2 hg3 hT23 hway3 hrow3 hQ3 hb4 hk4 hq4 hp4 hS hC hGO hR hW3 hW4;go_upto_region 9 with fail
    rw [←HW3.out];clear y3 f3;go_wp2_with fail
    rw [←HW4.out];refine HC.out.mono ?_;rintro e w5 ⟨A5,c5,rfl,hc5,hr5,hb5⟩;have HG5:=hid (HGO.out w5 A5 c5 hb5 hc5 hr5);clear hc5 hr5 hb5;go_wp2_with fail
    refine HG5.out.mono ?_;rintro e w6 ⟨⟨u,rfl⟩,hk6,ht6⟩;rw [HR.out] at hk6;have HF:=hid (And.intro hk6 ht6);clear hk6 ht6;go_wp2_with fail
    go_ret
    exact .inr (.inr ⟨HNo.out,Q,HPa.out,rfl,by simpa [HRt.out] using HF.out.1,HF.out.2⟩)
   ·have HRt:=hid hrt
    have y0:w1.cell? ⟨g,0,none⟩=some (.slice A ts.length c):=Jaa hg1 0;have f0:=Jab hg1 0;obtain⟨W2,hW2⟩:=words.nm (w1.setCell ⟨g,0,none⟩ (.slice A 1 c));have hl1:(ts.take 1).length=1:=by rw [List.length_take];omega
    have hg2:W2.heap[g]?=some (wkC (.slice A (ts.take 1).length c) (.slice (some ⟨bp,op,none⟩) (ps.length+1) cp) f hI):=by
     rw [hW2,heap_setCell_same w1 g 0 _ _ (.slice A 1 c) hg1,hl1];rfl
    have hT12:Tur g w1 W2:=by rw [hW2];exact (Tur.refl g w1).set 0 _
    have hway2:=hT12.way hg1 (hway1.take 1);have hrow2:=hT12.row hg1 hrow1;have hQ2:=hT12.row hg1 hQ1;have hT2:=hT1.trans hT12;have hcw:=Jpe A ts.length c 1 c1;have HC2:=hid (show (ts.take 1).length≤c∧1≤(ts.take 1).length∧(ts.take 1).length≤1000000000 by rw [hl1];omega);have HW2:=hid hW2;clear hg1 hway1 hrow1 hQ1 hT1 hrt hl hl2 hc hW2 hl1 hT12;go_upto_region 8 with fail
    rw [←HW2.out];clear y0 f0;have y3:W2.cell? ⟨g,3,none⟩=some (.int .i64 hI):=Jaa hg2 3;have f3:=Jab hg2 3;obtain⟨W3,hW3⟩:=words.nm (W2.setCell ⟨g,3,none⟩ (.int .i64 (hI+1)));have hg3:W3.heap[g]?=some (wkC (.slice A (ts.take 1).length c) (.slice (some ⟨bp,op,none⟩) (ps.length+1) cp) f (hI+1)):=by
     rw [hW3,heap_setCell_same W2 g 3 _ _ (.int .i64 (hI+1)) hg2];rfl
    have hT23:Tur g W2 W3:=by rw [hW3];exact (Tur.refl g W2).set 3 _
    have hway3:=hT23.way hg2 hway2;have hrow3:=hT23.row hg2 hrow2;have hQ3:=hT23.row hg2 hQ2;obtain⟨W4,hW4⟩:=words.nm (W3.alloc (.cells #[.slice Aq Q.length cq,.slice Ap2 ps.length (cp - 1)] 47));have hb4:Below W3.heap.size W3 W4:=words.b1 hW4;have hk4:W4.heap[W3.heap.size]?=some (.cells #[.slice Aq Q.length cq,.slice Ap2 ps.length (cp - 1)] 47 (0,0)):=by rw [hW4];exact heap_alloc_new W3 _
    have hq4:=(hQ3.keep hb4).more hb4.size;have hp4:=((Jif hrow3 HCp.out).keep hb4).more hb4.size;rw [←HAp.out] at hp4;have hS:Slcs W4 W4.heap.size (some ⟨W3.heap.size,0,none⟩) [Q,ps]:=fun i l hl=>by
     rcases i with _ |_ |i
     ·obtain rfl:Q=l:=by simpa using hl
      exact⟨_,0,Aq,cq,rfl,lt_of_some hk4,Jaa hk4 0,hq4,HNil.out⟩
     ·obtain rfl:ps=l:=by simpa using hl
      exact⟨_,0,Ap2,cp - 1,rfl,lt_of_some hk4,Jaa hk4 1,hp4,HNp.out⟩
     ·simp at hl
    obtain⟨R,hR⟩:=words.nm (Q++ps);have hC:Calls prog 100 #[.slice (some ⟨W3.heap.size,0,none⟩) 2 2] W4 (Joined W4 R):=by
     have h:=Jc5 (some ⟨W3.heap.size,0,none⟩) 2 [Q,ps] W4 hS (show 2≤10 by decide) (fun l hl=>by
       rcases List.mem_cons.1 hl with rfl |hl
       ·exact HQl.out
       ·obtain rfl:l=ps:=by simpa using hl
        exact HPl.out)
     rw [show [Q,ps].flatten=R by rw [hR];simp] at h;exact h
    have hGO:∀(w5:World) (A5:Option Addr) (c5:Nat),Below W4.heap.size W4 w5→R.length≤c5→heap.Row w5 w5.heap.size A5 R→Calls prog 60 #[.pointer (some ⟨g,0,none⟩),.slice A5 R.length c5] w5 fun e w'=>(∃u,e= .returned u)∧Wkr w' g ((ts.take 1).take (upK (ts.take 1).length R)) (restP R) f (h+1)∧Tur g w w':=fun w5 A5 c5 hb5 hc5 hr5=>by
     have hb35:=hb4.trans (hb5.mono hb4.size);have hg5:=(hb35.block _ (lt_of_some hg3)).trans hg3;rw [show hI+1=((h+1:Nat):Int) by rw [HHi.out];simp] at hg5;exact (Jfc w5 g A (some ⟨bp,op,none⟩) A5 c (ps.length+1) cp c5 (ts.take 1) R f (h+1) hg5 (by have:=HC2.out;omega) hc5 ((Tur.below (g:=g) hb35).way hg3 hway3) hr5 (by have:=HC2.out;omega) (by have:=HC2.out;omega)).mono fun e w' ⟨h1,h2,h3⟩=>⟨h1,h2,(hT2.trans (hT23.trans (Tur.below hb35))).trans h3⟩
    have x1:W3.cell? ⟨g,1,none⟩=some (.slice (some ⟨bp,op,none⟩) (ps.length+1) cp):=Jaa hg3 1;have HC:=hid hC;have HGO:=hid hGO;have HR:=hid hR;have HW3:=hid hW3;have HW4:=hid hW4;clear hg2 hway2 hrow2 hQ2 hT2 hg3 hT23 hway3 hrow3 hQ3 hb4 hk4 hq4 hp4 hS hC hGO hR hW3 hW4;go_upto_region 9 with fail
    rw [←HW3.out];clear y3 f3;go_wp2_with fail
    rw [←HW4.out];refine HC.out.mono ?_;rintro e w5 ⟨A5,c5,rfl,hc5,hr5,hb5⟩;have HG5:=hid (HGO.out w5 A5 c5 hb5 hc5 hr5);clear hc5 hr5 hb5;go_wp2_with fail
    refine HG5.out.mono ?_;rintro e w6 ⟨⟨u,rfl⟩,hk6,ht6⟩;rw [HR.out] at hk6;have HF:=hid (And.intro hk6 ht6);clear hk6 ht6;go_wp2_with fail
    go_ret
    exact .inr (.inr ⟨HNo.out,Q,HPa.out,rfl,by simpa [HRt.out] using HF.out.1,HF.out.2⟩)
end Go.Proofs.YtkjpgheealfedaaGreatDoor.wlk
