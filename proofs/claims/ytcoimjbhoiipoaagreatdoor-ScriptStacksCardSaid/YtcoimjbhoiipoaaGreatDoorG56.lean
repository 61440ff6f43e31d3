import Derived.Test.YtcoimjbhoiipoaaGreatDoorG40
import Derived.Test.YtcoimjbhoiipoaaGreatDoorG49
import Derived.Test.YtcoimjbhoiipoaaGreatDoorG55
set_option maxHeartbeats 25600000
set_option maxRecDepth 100000
open Go.Lib (hid)
open Go.Proofs.Tryz
namespace Go.Proofs.YtcoimjbhoiipoaaGreatDoor.scr
open Go.RowKit words ext name tre stk ima cal

theorem infoTx:(Tryz.prog.info? 9).map (fun i=>(i.zero,i.size,i.bytes))=some (some (.string ⟨#[]⟩),1,16):=by kernel_rfl
theorem Jhw {w:World} {B n c:Nat} {A:Option Addr} {I:List ByteArray} (h:w.ownsRow B 9 1 (.slice A n c) n (I.map Value.string)):Tx w w.heap.size A I:=fun i x hx=>by
 obtain⟨b,cur,e1,_,e3,_,e5⟩:=tre.own_cell h (j:=i) (u:= .string x) (by rw [List.getElem?_map,hx];rfl);exact⟨b,0,e1,e3,by rw [Nat.zero_add];exact e5⟩
theorem Jju {w:World} {B n c:Nat} {A:Option Addr} {xs:List Value} (h:w.ownsRow B 9 1 (.slice A n c) n xs):Lies w A xs:=fun i x hx=>by
 obtain⟨b,cur,e1,_,e3,_,e5⟩:=tre.own_cell h hx;exact⟨b,0,e1,e3,by rw [Nat.zero_add];exact e5⟩
theorem Jc0 {w w':World} {B n size:Nat} {v:Value} {E:TypeId} {xs:List Value} (h:w.ownsRow B E size v n xs) (hb:Below w.heap.size w w'):w'.ownsRow B E size v n xs:=by
 refine⟨h.1,?_⟩;rcases h.2 with h0 |⟨g,cap,cur,h1,h2,h3,h4⟩
 ·exact .inl h0
 ·exact .inr ⟨g,cap,cur,h1,h2,(hb.block _ (lt_of_some h3)).trans h3,h4⟩
theorem Jgh (I:List ByteArray):∀u∈I.map Value.string,u.oneCell'=true:=fun u hu=>by
 obtain⟨x,_,rfl⟩:=List.mem_map.1 hu;rfl
def okB (s:ByteArray):Bool:=(decB s).isSome
theorem Jsf {n:Nd} (hs:smallB n=true) (ht:treeB n=true) (hm:Tame n):okB (imgB n)=true∧OpenY (imgB n):=by
 have ho:=Jn8 hs hm ht;have hn:=Jih hs ho.all hm;have hc:=ho.cnt;have hd:=ho.dep;refine⟨by unfold okB;rw [Jjm ht (by omega) (by omega)];rfl,n,rfl,ht,ho.cc,by omega,by omega,by omega⟩
theorem Jr7 {s:ByteArray} (hs:s.size≤500):(okB s=true→OpenY s)∧(okB s=false→OpenN s):=by
 unfold okB;constructor
 ·intro h
  obtain⟨n,hn⟩:=Option.isSome_iff_exists.1 h;obtain⟨h1,h2,h3,h4,h5,h6⟩:=Jmi (by omega) hn;exact⟨n,h1,h2,by rw [Jh7 (by omega)];unfold wrap64;omega,h4,h5,h6⟩
 ·intro h
  refine⟨Option.isNone_iff_eq_none.1 (by rw [←Option.not_isSome,h];rfl),by omega,fun n c hn=>?_⟩;obtain⟨h1,h2⟩:=Jfl 4097 _ _ _ _ _ hn;have h3:=Jqg s;rw [h1,List.length_append] at h3;simp at h3;omega
theorem law_stacks (A:Option Addr) (c:Nat) (T:List Nd) (rs:Nat→Raw) (odd:ByteArray) (a:Int) (m:Int) (w:World) (ha:0≤a∧a≤255) (hT:Trees w w.heap.size A T rs) (hE:Env m w):
  Calls prog 3 #[.slice A T.length c,.string odd,.int .u8 a] w (AnsB true w):=by
 have HE:=hid hE;have HT:=hid hT;have HSp:=hid (Jl3 m w hE);clear hE hT;go_enter func3,ntmps3
 go_wp2_with fail
 refine HSp.out.mono ?_;rintro e w1 ⟨rfl,hb1⟩;have HB1:=hid hb1;have HC:=hid (seen.may_any A c T rs w1 (HT.out.later hb1));clear hb1 HSp;go_wp2_with fail
 refine HC.out.mono ?_;rintro e w2 ⟨rfl,hb2⟩;have HB2:=hid (HB1.out.trans (hb2.mono HB1.out.size));have HT2:=hid ((HT.out.later HB1.out).later hb2);clear hb2 HC HB1;rcases hmay:seen.mayB T with _ |_
 ·rw [seen.mayI_no hmay]
  go_wp2_with fail
  go_ret
  exact⟨rfl,HB2.out⟩
 rw [seen.mayI_yes hmay];have hT8:=seen.mayB_len hmay;have HAll:=hid (seen.mayB_all hmay);clear hmay;by_cases hlong:500<odd.size
 ·have g:(500:Int)<(odd.size:Int):=by omega
  go_wp2_with fail
  go_ret
  exact⟨rfl,HB2.out⟩
 have g:¬(500:Int)<(odd.size:Int):=by omega
 have HM2:=hid (tre.below_cell HE.out.max HB2.out);obtain⟨iS,hiS,zS0,zS1,zS2⟩:=info_parts infoTx;have HO0:Hid (World.ownsRow w2 w2.heap.size 9 1 (.slice none 0 0) 0 (((T.take 0).map imgB).map Value.string)):=hid (World.ownsRow_nil _ _ _ _);have HBB:Hid (Below w2.heap.size w2 w2):=hid (Below.refl _ _);go_wp2_with fail
 go_loopw [32,7] (fun v v7 wr=>∃k:Nat,v= .int .i64 (k:Int)∧k≤T.length∧Hid (wr.ownsRow w2.heap.size 9 1 v7 k (((T.take k).map imgB).map Value.string))∧Hid (Below w2.heap.size w2 wr)) (fun v _ _=>T.length - (intOf v).toNat)
 case atStart=>exact⟨0,rfl,Nat.zero_le _,HO0,HBB⟩
 case round=>
  clear HO0 HBB;obtain⟨k,rfl,hk,HO,HB⟩:=hrel;by_cases hlt:k<T.length
  ·obtain⟨t,ht⟩:∃t,T[k]?=some t:=⟨_,List.getElem?_eq_getElem hlt⟩
   obtain⟨⟨b,off,hA,hb,hcl⟩,hN⟩:=(HT2.out.keep HB.out) k t ht;obtain⟨rx,hrx⟩:=words.nm (rs k);rw [←hrx] at hcl hN;subst hA;have c0:wr.cell? ⟨b,off+k*7,none⟩=some (.int .i64 t.K):=hcl 0 _ rfl;have c1':wr.cell? ⟨b,off+k*7+1,none⟩=some (.bool t.O):=hcl 1 _ rfl;have c2:wr.cell? ⟨b,off+k*7+2,none⟩=some (.slice rx.An t.N.length rx.cn):=hcl 2 _ rfl;have c3:wr.cell? ⟨b,off+k*7+3,none⟩=some (.slice rx.Ai t.I.length rx.ci):=hcl 3 _ rfl;have c4:wr.cell? ⟨b,off+k*7+4,none⟩=some (.int .i64 t.S):=hcl 4 _ rfl;have c5:wr.cell? ⟨b,off+k*7+5,none⟩=some (.slice rx.Ae t.E.length rx.ce):=hcl 5 _ rfl;have c6:wr.cell? ⟨b,off+k*7+6,none⟩=some (.string t.T):=hcl 6 _ rfl;have i0:(0:Int)≤(k:Int):=by omega
   have i1:(k:Int)<(T.length:Int):=by omega
   obtain⟨W2,hW2⟩:=words.nm (wr.alloc (.cells (rawCells t rx) 28));have hb2:Below wr.heap.size wr W2:=words.b1 hW2;have hx2:Box W2 wr.heap.size t rx:=by rw [hW2];exact Box.new wr t rx
   have hN2:NdAt W2 W2.heap.size t rx:=(hN.more HB.out.size).later hb2;obtain⟨d1,d2⟩:=HAll.out t (List.mem_of_getElem? ht);have ho:=Jn8 d1 hN2.tame d2;have hnb:=Jih d1 ho.all hN2.tame;have hcn:=ho.cnt;have hdp:=ho.dep;have hr:=Jfh d1 hN2.tame;rw [d2] at hr;have hC:=Jg6 t rx W2 hN2 (by omega) hr.symm (by omega) (by omega);unfold ndV rawCells at hC;have HC:=hid hC;have HX2:=hid hx2;have HBr:=hid (HB.out.trans (hb2.mono HB.out.size));have HOr:=hid (Jc0 HO.out hb2);have Ht:=hid ht;unfold rawCells at hW2;have HW2:=hid hW2;clear hcl hN hb2 hx2 hN2 d1 d2 ho hnb hcn hdp hr hC ht hW2 hrx HB HO;go_upto_region 9 with fail
   rw [←HW2.out];clear c0 c1' c2 c3 c4 c5 c6 HW2;obtain⟨b0,b1,b2,b3,b4,b5,b6⟩:=HX2.out.cells;go_wp2_with fail
   refine HC.out.mono ?_;rintro e w3 ⟨rfl,hb3⟩;obtain⟨A3,c3,rfl,_,_⟩:=own_facts HOr.out;have HB3:=hid (HBr.out.trans (hb3.mono HBr.out.size));obtain⟨q,hq⟩:=words.nm (imgB t);rw [←hq];have HO4:=hid (fun o=>Jc0 (Jc0 HOr.out hb3) ((Below.refl w3.heap.size w3).alloc (Nat.le_refl _) o));have HNx:Hid (((T.take (k+1)).map imgB).map Value.string=((T.take k).map imgB).map Value.string++[.string q]):=hid (by
     obtain⟨hk1,htt⟩:=List.getElem?_eq_some_iff.1 Ht.out;rw [List.take_succ_eq_append_getElem hk1,htt,hq];simp)
   clear hb3 HC HX2 HBr HOr hq b0 b1 b2 b3 b4 b5 b6;go_wp2_with (at_builtin;refine wpList_append_own _ rfl (.tmp 41) (.tmp 43) 25 rfl w2.heap.size 9 iS _ 1 16 underlying25 hiS zS0 zS1 zS2 rfl (by omega) (.slice A3 k c3) k (((T.take k).map imgB).map Value.string) rfl (HO4.out _) ⟨w3.heap.size,0,none⟩ 1 1 [.string q] rfl rfl (World.news_of_block (cs:=#[.string q]) (heap_alloc_new w3 _)) (by simp [Value.oneCell']) (by unfold maxLen;omega) (by omega) (by have:=HB3.out.size;simp;omega) ?_;intro v5 w5 hown5 hgrow5 _;have HB5:=hid (Ja4 (HB3.out.alloc HB3.out.size _) (HO4.out _) hgrow5 (Nat.le_refl _) (Nat.le_refl _));have HO5:=hid hown5;clear hown5 hgrow5)
   go_roundw
   case rel=>exact⟨k+1,by go_num,by omega,by rw [HNx.out];exact HO5,HB5⟩
   case measure=>simp [intOf];omega
  ·obtain rfl:k=T.length:=by omega
   rename World=>w3;obtain⟨A3,c3,rfl,hc3,hz3⟩:=own_facts HO.out;obtain⟨I,hI⟩:=words.nm (T.map imgB);obtain⟨n,hn⟩:=words.nm (T.length);have hIl:I.length=n:=by rw [hI,List.length_map,hn]
   have ho3:=HO.out;rw [List.take_length,←hI,←hn] at ho3;have hIy:∀x∈I,okB x=true∧OpenY x:=fun x hx=>by
    rw [hI] at hx;obtain⟨t,ht,rfl⟩:=List.mem_map.1 hx;obtain⟨d1,d2⟩:=HAll.out t ht;obtain⟨i,hi⟩:=List.mem_iff_getElem?.1 ht;exact Jsf d1 d2 (HT2.out i t hi).2.tame
   have hs:=Jfn okB A3 c3 I m w3 (Jhw ho3) (tre.below_cell HM2.out HB.out) (fun x hx=>⟨fun _=>(hIy x hx).2,fun h=>by rw [(hIy x hx).1] at h;cases h⟩);rw [hIl,Ji5 I 0 (fun x hx=>(hIy x hx).1) (by omega)] at hs;have HS:=hid hs;have HIy:=hid hIy;have HI:=hid hIl;have HO3:=hid ho3;have HZ3:=hid hz3;have Hn:=hid hn;rw [←hn] at hT8 hc3;rw [←hn];clear hI hIl ho3 hIy hs hz3 hn hk hlt HO;go_wp2_with fail
   refine HS.out.mono ?_;rintro e w4 ⟨⟨_,A4,c4,rfl⟩ |⟨h0,_⟩,hb4⟩
   rotate_left 1
   ·exact absurd rfl h0
   obtain⟨W5,hW5⟩:=words.nm (w4.alloc (.cells #[.slice A4 n c4,.int .i64 (n:Int)] 33));have hb5:Below w3.heap.size w3 W5:=by rw [hW5];exact hb4.alloc hb4.size _
   have hx5:W5.heap[w4.heap.size]?=some (.cells #[.slice A4 n c4,.int .i64 (n:Int)] 33 (0,0)):=by rw [hW5];exact heap_alloc_new w4 _
   have s0:=Jaa hx5 0;have s1:=Jaa hx5 1;have HB5:=hid (HB.out.trans (hb5.mono HB.out.size));have HO5:=hid (Jc0 HO3.out hb5);have HL:=hid (Jg2 A4 n c4 (n:Int) W5);have HW5:=hid hW5;have gn:((n:Int) !=(n:Int))=false:=bne_self_eq_false _;clear hb4 hb5 hx5 hW5 HS HO3 HB;go_upto_region 13 with fail
   rw [←HW5.out];clear HW5;unfold stkV at HL;go_wp2_with fail
   refine HL.out.mono ?_;rintro e w6 ⟨rfl,hb6⟩;have HB6:=hid (HB5.out.trans (hb6.mono HB5.out.size));have HO6:=hid (Jc0 HO5.out hb6);clear hb6 HL HB5 HO5 s0 s1;obtain⟨k,hk⟩:∃k:Nat,k=a.toNat % (n+1):=⟨_,rfl⟩
   have hkn:k≤n:=by rw [hk];exact Nat.le_of_lt_succ (Nat.mod_lt _ (Nat.succ_pos n))
   have q0:IntKind.i64.wrap a=a:=IntWalk.i64_in _ (by omega);have q1:IntKind.i64.wrap ((n:Int)+1)=(n:Int)+1:=IntWalk.i64_in _ (by omega);have q2:¬(n:Int)+1=0:=by omega
   have q3:Int.tmod a ((n:Int)+1)=(k:Int):=by
    rw [Int.tmod_eq_emod_of_nonneg ha.1,hk];have e1:a=(a.toNat:Int):=by omega
    rw [e1];rfl
   have q4:IntKind.i64.wrap (k:Int)=(k:Int):=IntWalk.i64_in _ (by omega);clear hk;go_upto_region 16 with fail
   have p0:(0:Int)≤(k:Int):=by omega
   have p1:(k:Int)≤(c3:Int):=by omega
   have p2:(k:Int)≤(n:Int):=by omega
   have hcl:=cat.run_cut_lo (P:=prog) 25 9 _ 1 16 (by kernel_rfl) (by kernel_rfl) infoTx A3 n c3 k hkn;have hch:=cat.run_cut_hi (P:=prog) 25 9 _ 1 16 (by kernel_rfl) (by kernel_rfl) infoTx A3 n c3 k (by omega);have hZd:cat.cutA A3 c3 k 1=none→n - k=0∧c3 - k=0:=cat.cutA_none (by rw [Hn.out];exact HZ3.out) hkn;have hlo:=HO6.out;have hl2:=Jju hlo;have hld:Lies w6 (cat.cutA A3 c3 k 1) ((I.drop k).map Value.string):=by
    have h:=cat.lies_drop hl2 (c:=c3) (i:=k) (sz:=1) (by rw [List.length_map,HI.out];omega);rwa [Nat.mul_one,←List.map_drop] at h
   have hlt2:Lies w6 A3 ((I.take k).map Value.string):=by
    have h:=cat.lies_take hl2 k;rwa [←List.map_take] at h
   obtain⟨Ad,hAd⟩:=words.nm (cat.cutA A3 c3 k 1);rw [←hAd] at hcl hZd hld;obtain⟨nd,hnd⟩:=words.nm (n - k);obtain⟨cd,hcd⟩:=words.nm (c3 - k);rw [←hnd,←hcd] at hcl hZd;have HLd:=hid hld;have HLt:=hid hlt2;have HZd:=hid hZd;have HIt:=hid (show ((I.take k).map Value.string).length=k*1 by rw [List.length_map,List.length_take,HI.out];omega);have HId:=hid (show ((I.drop k).map Value.string).length=nd*1 by rw [List.length_map,List.length_drop,HI.out];omega);have HZt:=hid (show A3=none→k=0∧c3=0 from fun h=>by have:=HZ3.out h;rw [←Hn.out] at this;omega);have HO6x:=HO6;have Hnk:=hid (show n+1=(k+1)+nd by omega);have hndn:nd≤n:=by omega
   clear hlo hl2 hld hlt2 hAd hcd hZd hnd;go_cut [15] from 66 to 77 (fun v wx=>∃A' c',v= .slice A' (n+1) c'∧Hid (cat.Mk w6 9 1 (.slice A' (n+1) c') (n+1) (((I.take k).map Value.string++[.string odd])++(I.drop k).map Value.string) wx))
   case first=>
    obtain⟨V,hV⟩:=words.nm (w6.drew);have HBV:=hid (show Below w6.heap.size w6 V by rw [hV];exact (Below.refl _ _).drew);have HSS:Hid (∀w':World,Below w6.heap.size w6 w'→Below w6.heap.size w6 w'):=hid fun _ h=>h;have HSV:=hid (HSS.out _ HBV.out);refine wp_region_held_drew (S:=fun w'=>Below w6.heap.size w6 w') (by kernel_rfl) (by rw [←hV];exact HSV.out) (fun hHeld=>?_);rw [←hV] at hHeld ⊢;clear hV HSV;refine words.tk 1 67 (v:=?_) ?_ ?_
    rotate_left 1
    ·intro _ h;(try dsimp only at h);go_simp;(try with_reducible rfl)
    try simp only [words.pt]
    refine words.tk 2 68 (v:=?_) ?_ ?_
    rotate_left 1
    ·intro _ h;(try dsimp only at h);go_simp;(try with_reducible rfl)
    try simp only [words.pt]
    refine words.tk 3 69 (v:=?_) ?_ ?_
    rotate_left 1
    ·intro _ h;(try dsimp only at h);go_simp;(try with_reducible rfl)
    try simp only [words.pt]
    refine words.tk 5 71 (v:=?_) ?_ ?_
    rotate_left 1
    ·intro _ h;(try dsimp only at h);go_simp;(try with_reducible rfl)
    try simp only [words.pt]
    refine words.tk 8 74 (v:=?_) ?_ ?_
    rotate_left 1
    ·intro _ h;(try dsimp only at h);go_simp;(try with_reducible rfl)
    try simp only [words.pt]
    refine words.tk 9 75 (v:=?_) ?_ ?_
    rotate_left 1
    ·intro _ h;(try dsimp only at h);go_simp;(try with_reducible rfl)
    try simp only [words.pt]
    refine words.tk 10 76 (v:=?_) ?_ ?_
    rotate_left 1
    ·intro _ h;(try dsimp only at h);go_simp;(try with_reducible rfl)
    try simp only [words.pt]
    refine wpAnyH_ready (rs:=[0,6]) (by kernel_rfl) (by simp) ?_;refine AllReadyH.cons rfl (fun K hK=>?_) (AllReadyH.cons rfl (fun K hK=>?_) AllReadyH.nil)
    ·skip
     obtain⟨v1,hv1⟩:=words.nm (World.alloc V (.cells #[] 9));have hxv1:Below (World.heap V).size V v1:=by rw [hv1];exact cat.below_new _ _
     have HTv1:=hid (show (World.heap V).size<(World.heap v1).size by rw [hv1];simp);have HMv1:Hid (cat.Mk w6 9 1 (.slice (some ⟨(World.heap V).size,0,none⟩) 0 0) 0 [] v1):=hid (by rw [hv1];exact cat.Mk.start 9 1 HBV.out);have HBv1:=hid HMv1.out.below;go_simp
     rw [←hv1];clear hv1 hxv1;clear hHeld;refine hK.out _ _ (HSS.out _ HBv1.out) (fun hHeld=>?_);clear hK;try simp only [words.pt]
     refine wpAnyH_ready (rs:=[4,6]) (by kernel_rfl) (by simp) ?_;refine AllReadyH.cons rfl (fun K hK=>?_) (AllReadyH.cons rfl (fun K hK=>?_) AllReadyH.nil)
     ·skip
      refine cat.step_app HMv1.out (by rfl) (.tmp 66) (.tmp 69) 25 (by rfl) _ 16 underlying25 infoTx rfl (by omega) (by rfl) A3 k c3 ((I.take k).map Value.string) HZt.out (by rfl) HIt.out ((cat.lies_below HLt.out HBv1.out)) (Jgh _) (by simp only [maxLen];omega) (by omega) k ((I.take k).map Value.string) (by omega) (by rw [List.nil_append]) ?_;intro Aq3 cq4 v2 hm hcap hgrow;have HMv2:=hid hm;have HCv2:=hid hcap;have HBv2:=hid hm.below;clear hm hcap hgrow;clear hHeld;refine hK.out (Act.put _ (some 70) _) _ (HSS.out _ HBv2.out) (fun hHeld=>?_);clear hK;try simp only [words.pt]
      refine wpAnyH_ready (rs:=[6]) (by kernel_rfl) (by simp) (.cons rfl (fun K hK=>?_) .nil);obtain⟨v5,hv5⟩:=words.nm (World.alloc v2 (.cells #[.string odd] 9));have hxv5:Below (World.heap v2).size v2 v5:=by rw [hv5];exact cat.below_new _ _
      have HTv5:=hid (show (World.heap v2).size<(World.heap v5).size by rw [hv5];simp);have HLv5_6:Hid (Lies v5 (some ⟨(World.heap v2).size,0,none⟩) (#[.string odd]:Array Value).toList):=hid (by rw [hv5];exact cat.lies_new _ _ _);have HBv5:=hid (HBv2.out.trans (hxv5.mono HBv2.out.size));have HMv5:=hid (HMv2.out.later hxv5);go_simp
      rw [←hv5];clear hv5 hxv5;clear hHeld;refine hK.out _ _ (HSS.out _ HBv5.out) (fun hHeld=>?_);clear hK;try simp only [words.pt]
      refine wpAnyH_ready (rs:=[7]) (by kernel_rfl) (by simp) (.cons rfl (fun K hK=>?_) .nil);refine cat.step_app HMv5.out (by rfl) (.tmp 70) (.tmp 72) 25 (by rfl) _ 16 underlying25 infoTx rfl (by omega) (by rfl) (some ⟨(World.heap v2).size,0,none⟩) 1 1 [.string odd] (fun h=>by cases h) (by rfl) (by rfl) (HLv5_6.out) (by simp [Value.oneCell']) (by simp only [maxLen];omega) (by omega) (k+1) ((I.take k).map Value.string++[.string odd]) rfl rfl ?_;intro Aq7 cq8 v6 hm hcap hgrow;have HMv6:=hid hm;have HCv6:=hid hcap;have HBv6:=hid hm.below;clear hm hcap hgrow;clear hHeld;refine hK.out (Act.put _ (some 73) _) _ (HSS.out _ HBv6.out) (fun hHeld=>?_);clear hK;try simp only [words.pt]
      refine wpAnyH_ready (rs:=[11]) (by kernel_rfl) (by simp) (.cons rfl (fun K hK=>?_) .nil);refine cat.step_app HMv6.out (by rfl) (.tmp 73) (.tmp 76) 25 (by rfl) _ 16 underlying25 infoTx rfl (by omega) (by rfl) Ad nd cd ((I.drop k).map Value.string) HZd.out (by rfl) HId.out ((cat.lies_below HLd.out HBv6.out)) (Jgh _) (by simp only [maxLen];omega) (by omega) (n+1) (((I.take k).map Value.string++[.string odd])++(I.drop k).map Value.string) Hnk.out rfl ?_;intro Aq10 cq11 v9 hm hcap hgrow;have HMv9:=hid hm;have HCv9:=hid hcap;have HBv9:=hid hm.below;clear hm hcap hgrow;clear hHeld;refine hK.out (Act.put _ (some 77) _) _ (HSS.out _ HBv9.out) (fun hHeld=>?_);clear hK;try simp only [words.pt]
      refine words.tk 12 15 (v:=?_) ?_ ?_
      rotate_left 1
      ·intro _ h;(try dsimp only at h);go_simp;(try with_reducible rfl)
      try simp only [words.pt]
      refine wpAnyH_done (by kernel_rfl) ?_ _;clear hHeld;go_wp2_with fail
      go_meet
      case rel=>exact⟨_,_,rfl,HMv9⟩
     ·skip
      obtain⟨v12,hv12⟩:=words.nm (World.alloc v1 (.cells #[.string odd] 9));have hxv12:Below (World.heap v1).size v1 v12:=by rw [hv12];exact cat.below_new _ _
      have HTv12:=hid (show (World.heap v1).size<(World.heap v12).size by rw [hv12];simp);have HLv12_6:Hid (Lies v12 (some ⟨(World.heap v1).size,0,none⟩) (#[.string odd]:Array Value).toList):=hid (by rw [hv12];exact cat.lies_new _ _ _);have HBv12:=hid (HBv1.out.trans (hxv12.mono HBv1.out.size));have HMv12:=hid (HMv1.out.later hxv12);go_simp
      rw [←hv12];clear hv12 hxv12;clear hHeld;refine hK.out _ _ (HSS.out _ HBv12.out) (fun hHeld=>?_);clear hK;try simp only [words.pt]
      refine wpAnyH_ready (rs:=[4]) (by kernel_rfl) (by simp) (.cons rfl (fun K hK=>?_) .nil);refine cat.step_app HMv12.out (by rfl) (.tmp 66) (.tmp 69) 25 (by rfl) _ 16 underlying25 infoTx rfl (by omega) (by rfl) A3 k c3 ((I.take k).map Value.string) HZt.out (by rfl) HIt.out ((cat.lies_below HLt.out HBv12.out)) (Jgh _) (by simp only [maxLen];omega) (by omega) k ((I.take k).map Value.string) (by omega) (by rw [List.nil_append]) ?_;intro Aq14 cq15 v13 hm hcap hgrow;have HLv13_6:=hid (cat.lies_grown HLv12_6.out hgrow (fun e=>by have e':(World.heap v1).size=(World.heap V).size:=Option.some.inj e;have h1:=HTv12.out;have h2:=HTv1.out;omega));have HMv13:=hid hm;have HCv13:=hid hcap;have HBv13:=hid hm.below;clear hm hcap hgrow;clear hHeld;refine hK.out (Act.put _ (some 70) _) _ (HSS.out _ HBv13.out) (fun hHeld=>?_);clear hK;try simp only [words.pt]
      refine wpAnyH_ready (rs:=[7]) (by kernel_rfl) (by simp) (.cons rfl (fun K hK=>?_) .nil);refine cat.step_app HMv13.out (by rfl) (.tmp 70) (.tmp 72) 25 (by rfl) _ 16 underlying25 infoTx rfl (by omega) (by rfl) (some ⟨(World.heap v1).size,0,none⟩) 1 1 [.string odd] (fun h=>by cases h) (by rfl) (by rfl) (HLv13_6.out) (by simp [Value.oneCell']) (by simp only [maxLen];omega) (by omega) (k+1) ((I.take k).map Value.string++[.string odd]) rfl rfl ?_;intro Aq17 cq18 v16 hm hcap hgrow;have HMv16:=hid hm;have HCv16:=hid hcap;have HBv16:=hid hm.below;clear hm hcap hgrow;clear hHeld;refine hK.out (Act.put _ (some 73) _) _ (HSS.out _ HBv16.out) (fun hHeld=>?_);clear hK;try simp only [words.pt]
      refine wpAnyH_ready (rs:=[11]) (by kernel_rfl) (by simp) (.cons rfl (fun K hK=>?_) .nil);refine cat.step_app HMv16.out (by rfl) (.tmp 73) (.tmp 76) 25 (by rfl) _ 16 underlying25 infoTx rfl (by omega) (by rfl) Ad nd cd ((I.drop k).map Value.string) HZd.out (by rfl) HId.out ((cat.lies_below HLd.out HBv16.out)) (Jgh _) (by simp only [maxLen];omega) (by omega) (n+1) (((I.take k).map Value.string++[.string odd])++(I.drop k).map Value.string) Hnk.out rfl ?_;intro Aq20 cq21 v19 hm hcap hgrow;have HMv19:=hid hm;have HCv19:=hid hcap;have HBv19:=hid hm.below;clear hm hcap hgrow;clear hHeld;refine hK.out (Act.put _ (some 77) _) _ (HSS.out _ HBv19.out) (fun hHeld=>?_);clear hK;try simp only [words.pt]
      refine words.tk 12 15 (v:=?_) ?_ ?_
      rotate_left 1
      ·intro _ h;(try dsimp only at h);go_simp;(try with_reducible rfl)
      try simp only [words.pt]
      refine wpAnyH_done (by kernel_rfl) ?_ _;clear hHeld;go_wp2_with fail
      go_meet
      case rel=>exact⟨_,_,rfl,HMv19⟩
    ·skip
     obtain⟨v22,hv22⟩:=words.nm (World.alloc V (.cells #[.string odd] 9));have hxv22:Below (World.heap V).size V v22:=by rw [hv22];exact cat.below_new _ _
     have HTv22:=hid (show (World.heap V).size<(World.heap v22).size by rw [hv22];simp);have HLv22_6:Hid (Lies v22 (some ⟨(World.heap V).size,0,none⟩) (#[.string odd]:Array Value).toList):=hid (by rw [hv22];exact cat.lies_new _ _ _);have HBv22:=hid (HBV.out.trans (hxv22.mono HBV.out.size));go_simp
     rw [←hv22];clear hv22 hxv22;clear hHeld;refine hK.out _ _ (HSS.out _ HBv22.out) (fun hHeld=>?_);clear hK;try simp only [words.pt]
     refine wpAnyH_ready (rs:=[0]) (by kernel_rfl) (by simp) (.cons rfl (fun K hK=>?_) .nil);obtain⟨v23,hv23⟩:=words.nm (World.alloc v22 (.cells #[] 9));have hxv23:Below (World.heap v22).size v22 v23:=by rw [hv23];exact cat.below_new _ _
     have HTv23:=hid (show (World.heap v22).size<(World.heap v23).size by rw [hv23];simp);have HMv23:Hid (cat.Mk w6 9 1 (.slice (some ⟨(World.heap v22).size,0,none⟩) 0 0) 0 [] v23):=hid (by rw [hv23];exact cat.Mk.start 9 1 HBv22.out);have HBv23:=hid HMv23.out.below;have HLv23_6:=hid (cat.lies_later HLv22_6.out hxv23);go_simp
     rw [←hv23];clear hv23 hxv23;clear hHeld;refine hK.out _ _ (HSS.out _ HBv23.out) (fun hHeld=>?_);clear hK;try simp only [words.pt]
     refine wpAnyH_ready (rs:=[4]) (by kernel_rfl) (by simp) (.cons rfl (fun K hK=>?_) .nil);refine cat.step_app HMv23.out (by rfl) (.tmp 66) (.tmp 69) 25 (by rfl) _ 16 underlying25 infoTx rfl (by omega) (by rfl) A3 k c3 ((I.take k).map Value.string) HZt.out (by rfl) HIt.out ((cat.lies_below HLt.out HBv23.out)) (Jgh _) (by simp only [maxLen];omega) (by omega) k ((I.take k).map Value.string) (by omega) (by rw [List.nil_append]) ?_;intro Aq25 cq26 v24 hm hcap hgrow;have HLv24_6:=hid (cat.lies_grown HLv23_6.out hgrow (fun e=>by have e':(World.heap V).size=(World.heap v22).size:=Option.some.inj e;have h1:=HTv22.out;have h2:=HTv23.out;omega));have HMv24:=hid hm;have HCv24:=hid hcap;have HBv24:=hid hm.below;clear hm hcap hgrow;clear hHeld;refine hK.out (Act.put _ (some 70) _) _ (HSS.out _ HBv24.out) (fun hHeld=>?_);clear hK;try simp only [words.pt]
     refine wpAnyH_ready (rs:=[7]) (by kernel_rfl) (by simp) (.cons rfl (fun K hK=>?_) .nil);refine cat.step_app HMv24.out (by rfl) (.tmp 70) (.tmp 72) 25 (by rfl) _ 16 underlying25 infoTx rfl (by omega) (by rfl) (some ⟨(World.heap V).size,0,none⟩) 1 1 [.string odd] (fun h=>by cases h) (by rfl) (by rfl) (HLv24_6.out) (by simp [Value.oneCell']) (by simp only [maxLen];omega) (by omega) (k+1) ((I.take k).map Value.string++[.string odd]) rfl rfl ?_;intro Aq28 cq29 v27 hm hcap hgrow;have HMv27:=hid hm;have HCv27:=hid hcap;have HBv27:=hid hm.below;clear hm hcap hgrow;clear hHeld;refine hK.out (Act.put _ (some 73) _) _ (HSS.out _ HBv27.out) (fun hHeld=>?_);clear hK;try simp only [words.pt]
     refine wpAnyH_ready (rs:=[11]) (by kernel_rfl) (by simp) (.cons rfl (fun K hK=>?_) .nil);refine cat.step_app HMv27.out (by rfl) (.tmp 73) (.tmp 76) 25 (by rfl) _ 16 underlying25 infoTx rfl (by omega) (by rfl) Ad nd cd ((I.drop k).map Value.string) HZd.out (by rfl) HId.out ((cat.lies_below HLd.out HBv27.out)) (Jgh _) (by simp only [maxLen];omega) (by omega) (n+1) (((I.take k).map Value.string++[.string odd])++(I.drop k).map Value.string) Hnk.out rfl ?_;intro Aq31 cq32 v30 hm hcap hgrow;have HMv30:=hid hm;have HCv30:=hid hcap;have HBv30:=hid hm.below;clear hm hcap hgrow;clear hHeld;refine hK.out (Act.put _ (some 77) _) _ (HSS.out _ HBv30.out) (fun hHeld=>?_);clear hK;try simp only [words.pt]
     refine words.tk 12 15 (v:=?_) ?_ ?_
     rotate_left 1
     ·intro _ h;(try dsimp only at h);go_simp;(try with_reducible rfl)
     try simp only [words.pt]
     refine wpAnyH_done (by kernel_rfl) ?_ _;clear hHeld;go_wp2_with fail
     go_meet
     case rel=>exact⟨_,_,rfl,HMv30⟩
   case rest=>
    rename World=>w7;obtain⟨A7,c7,rfl,HMk⟩:=hcut;obtain⟨X,hX⟩:=words.nm (I.take k++odd::I.drop k);have hXl:X.length=n+1:=by rw [hX,List.length_append,List.length_cons,List.length_take,List.length_drop,HI.out];omega
    have hXm:(((I.take k).map Value.string++[.string odd])++(I.drop k).map Value.string)=X.map Value.string:=by rw [hX];simp
    have hown:=HMk.out.own;rw [hXm] at hown;have hXy:∀x∈X,(okB x=true→OpenY x)∧(okB x=false→OpenN x):=fun x hx=>by
     rw [hX] at hx;rcases List.mem_append.1 hx with h |h
     ·have h1:=HIy.out x (List.mem_of_mem_take h)
      exact⟨fun _=>h1.2,fun h2=>by rw [h1.1] at h2;cases h2⟩
     ·rcases List.mem_cons.1 h with rfl |h
      ·exact Jr7 (by omega)
      ·have h1:=HIy.out x (List.mem_of_mem_drop h)
       exact⟨fun _=>h1.2,fun h2=>by rw [h1.1] at h2;cases h2⟩
    obtain⟨z,hz⟩:=words.nm (skE okB 0 X);have hzy:okB odd=true→z=0:=fun h=>by
     rw [hz];refine Ji5 X 0 (fun x hx=>?_) (by omega);rw [hX] at hx;rcases List.mem_append.1 hx with h1 |h1
     ·exact (HIy.out x (List.mem_of_mem_take h1)).1
     ·rcases List.mem_cons.1 h1 with rfl |h1
      ·exact h
      ·exact (HIy.out x (List.mem_of_mem_drop h1)).1
    have hzn:okB odd=false→z=1:=fun h=>by
     rw [hz,hX];exact Jmz (I.take k) 0 odd (I.drop k) (fun x hx=>(HIy.out x (List.mem_of_mem_take hx)).1) (by rw [List.length_take,HI.out];omega) h
    have HZy:=hid hzy;have HZn:=hid hzn;have HSk:Hid (∀w':World,Below w7.heap.size w7 w'→Calls prog 7 #[.slice A7 (n+1) c7] w' (SkOut z (n+1) w')):=hid fun w' hb=>by
     have h:=Jfn okB A7 c7 X m w' (Jhw (n:=n+1) (Jc0 hown hb)) (tre.below_cell (tre.below_cell HM2.out (HB6.out.trans (HMk.out.below.mono HB6.out.size))) hb) hXy;rw [hXl,←hz] at h;exact h
    have HB7:=hid (HB6.out.trans (HMk.out.below.mono HB6.out.size));have HDc:=hid (Jgr odd w7 (by omega));have HDr:=hid (Jm6 (s:=odd) (by omega));clear hX hXl hXm hown hXy hz hzy hzn HMk;go_wp2_with fail
    refine HDc.out.mono ?_;rintro e w8 ⟨hd,hb8⟩;obtain⟨bo,cs,hdv⟩:∃(bo:Bool) (cs:Nd×Raw),e= .returned (.tuple #[ndV cs.1 cs.2,.bool bo])∧okB odd=bo:=by
     rcases hd with⟨n',r',h1,rfl,_⟩ |⟨h1,rfl⟩
     ·exact⟨true,(n',r'),rfl,by unfold okB;rw [HDr.out,h1];rfl⟩
     ·exact⟨false,(nd0,raw0),rfl,by unfold okB;rw [HDr.out,h1];rfl⟩
    obtain⟨n8,r8⟩:=cs;obtain⟨rfl,hbo⟩:=hdv;have HBo:=hid hbo;obtain⟨W9,hW9⟩:=words.nm (w8.alloc (.cells (rawCells n8 r8) 28));have hb9:Below w7.heap.size w7 W9:=by rw [hW9];exact hb8.alloc hb8.size _
    have HB9:=hid (HB7.out.trans (hb9.mono HB7.out.size));have HS9:=hid (HSk.out W9 hb9);unfold rawCells at hW9;have HW9:=hid hW9;unfold ndV rawCells;clear hd hb8 hb9 hW9 hbo HDc HSk HDr;go_upto_region 18 with fail
    rw [←HW9.out];clear HW9;have g10:((n:Int)+1==(n:Int)+1)=true:=by simp
    go_wp2_with fail
    refine HS9.out.mono ?_;rintro e w10 ⟨ho,hb10⟩;have HB10:=hid (HB9.out.trans (hb10.mono HB9.out.size));rcases bo with _ |_
    ·have hz1:=HZn.out HBo.out
     rcases ho with⟨h0,_⟩ |⟨_,rfl⟩
     ·exact absurd (hz1.symm.trans h0) (by decide)
     rw [hz1];clear HZn HZy;obtain⟨W11,hW11⟩:=words.nm (w10.alloc (.cells #[.slice none 0 0,.int .i64 0] 33));have hx11:W11.heap[w10.heap.size]?=some (.cells #[.slice none 0 0,.int .i64 0] 33 (0,0)):=by rw [hW11];exact heap_alloc_new w10 _
     have s0:=Jaa hx11 0;have s1:=Jaa hx11 1;have HB11:=hid (show Below w.heap.size w W11 by rw [hW11];exact (HB2.out.trans (HB10.out.mono HB2.out.size)).alloc (Nat.le_trans HB2.out.size HB10.out.size) _);have HL:=hid (Jg2 none 0 0 0 W11);have HW11:=hid hW11;unfold stkV at HL;clear hb10 hx11 hW11 HS9;go_upto_region 19 with fail
     rw [←HW11.out];clear HW11;go_wp2_with fail
     refine HL.out.mono ?_;rintro e w12 ⟨rfl,hb12⟩;have HB12:=hid (HB11.out.trans (hb12.mono HB11.out.size));clear hb12 HL;go_wp2_with fail
     go_ret
     exact⟨rfl,HB12.out⟩
    ·have hz1:=HZy.out HBo.out
     rcases ho with⟨_,A11,c11,rfl⟩ |⟨h0,_⟩
     rotate_left 1
     ·exact absurd hz1 h0
     obtain⟨N1,hN1⟩:=words.nm (n+1);have gN:((N1:Int)==(N1:Int))=true:=by simp
     rw [←hN1];obtain⟨W11,hW11⟩:=words.nm (w10.alloc (.cells #[.slice A11 N1 c11,.int .i64 (N1:Int)] 33));have hx11:W11.heap[w10.heap.size]?=some (.cells #[.slice A11 N1 c11,.int .i64 (N1:Int)] 33 (0,0)):=by rw [hW11];exact heap_alloc_new w10 _
     have s0:=Jaa hx11 0;have s1:=Jaa hx11 1;have HB11:=hid (show Below w.heap.size w W11 by rw [hW11];exact (HB2.out.trans (HB10.out.mono HB2.out.size)).alloc (Nat.le_trans HB2.out.size HB10.out.size) _);have HL:=hid (Jg2 A11 N1 c11 (N1:Int) W11);have HW11:=hid hW11;unfold stkV at HL;clear hb10 hx11 hW11 HS9 hz1 hN1;go_upto_region 19 with fail
     rw [←HW11.out];clear HW11;go_wp2_with fail
     refine HL.out.mono ?_;rintro e w12 ⟨rfl,hb12⟩;have HB12:=hid (HB11.out.trans (hb12.mono HB11.out.size));clear hb12 HL;go_wp2_with fail
     go_ret
     exact⟨rfl,HB12.out⟩
end Go.Proofs.YtcoimjbhoiipoaaGreatDoor.scr
