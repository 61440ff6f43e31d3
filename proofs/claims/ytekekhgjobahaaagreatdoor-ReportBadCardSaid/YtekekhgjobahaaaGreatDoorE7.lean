import Derived.Test.YtekekhgjobahaaaGreatDoorE6
import Derived.Test.YtekekhgjobahaaaGreatDoorE5
set_option maxHeartbeats 25600000
set_option maxRecDepth 100000
open Go.Lib (hid)
open Go.Proofs.Tryz
namespace Go.Proofs.YtekekhgjobahaaaGreatDoor.ima
open Go.RowKit words ext name tre

def GetOut (s:ByteArray) (R:Option (Nd×List UInt8)) (w:World) (e:Ending) (w':World):Prop:=
 ((R=none∧e= .returned gotN)∨(∃(n:Nd) (p:Nat) (pI:Int) (r:Raw),R=some (n,s.data.toList.drop p)∧p≤s.size∧pI=(p:Int)∧e= .returned (gotV n r pI)∧NdIn w' (Fresh w w') n r))∧Below w.heap.size w w'
abbrev DirT:=Option (List ByteArray×List Nd×List UInt8×Nat)
def DirOut (s:ByteArray) (O:Bool) (R:DirT) (w:World) (e:Ending) (w':World):Prop:=
 ((R=none∧e= .returned gotN)∨(∃(N:List ByteArray) (I:List Nd) (p:Nat) (c:Nat) (pI:Int) (r:Raw),R=some (N,I,s.data.toList.drop p,c)∧p≤s.size∧pI=(p:Int)∧e= .returned (gotV (.mk 2 O N I 0 [] ⟨#[]⟩) r pI)∧NdIn w' (Fresh w w') (.mk 2 O N I 0 [] ⟨#[]⟩) r))∧Below w.heap.size w w'
theorem Jj4 (s:ByteArray) (p:Nat) (h:p≤s.size):(s.extract p s.size).data.toList=s.data.toList.drop p∧(s.extract p s.size).size=s.size - p:=by
 have hl:s.data.toList.length=s.size:=rfl;have h1:=Jei s p (s.size - p) (by omega);rw [show p+(s.size - p)=s.size by omega] at h1;refine⟨?_,h1.2⟩;rw [h1.1,List.take_of_length_le (by rw [List.length_drop,hl];omega)]
theorem Jpc {w:World} {g b:Nat} (h:b≠g) (u0 u1 u2 u3 u4 u5 u6 u7:Value):(set8 w g u0 u1 u2 u3 u4 u5 u6 u7).heap[b]?=w.heap[b]?:=by
 unfold set8;have e:∀(w:World) (j:Nat) (u:Value),(w.setCell ⟨g,j,none⟩ u).heap[b]?=w.heap[b]?:=fun w j u=>Below.heap_setCell w ⟨g,j,none⟩ u b h;rw [e,e,e,e,e,e,e,e]
theorem Jpr (w:World) (g:Nat) (u0 u1 u2 u3 u4 u5 u6 u7:Value):w.heap.size≤(set8 w g u0 u1 u2 u3 u4 u5 u6 u7).heap.size:=by
 unfold set8;simp [World.setCell]
theorem Jv9 (f:Nat) (s:ByteArray) (d:Int) (w:World) (h1:¬15<d) (hd0:0≤d) (h2:0<s.size) (hsm:s.size≤100000) (hkk:s[0].toNat=2) (hne:¬(numB s 2 2<0∨1<numB s 1 1)) (O:Bool) (hO:decide (numB s 1 1=1)=O) (R:DirT) (hR:dirR f s=R)
  (hget:∀(t:ByteArray) (w:World),t.size≤100000→Calls prog 25 #[.string t,.int .i64 (d+1)] w (GetOut t (getP f t.data.toList) w)):
  Calls prog 25 #[.string s,.int .i64 d] w (DirOut s O R w):=by
 obtain⟨iS,hiS,zS0,zS1,zS2⟩:=info_parts infoString;obtain⟨iX,hiX,zX0,zX1,zX2⟩:=info_parts infoNode;have hs4:4≤s.size:=by
  rcases Nat.lt_or_ge s.size 4 with h |h
  ·exact absurd (.inl (by rw [Jcx (by omega)];decide)) hne
  ·exact h
 have hs1:1<s.size:=by omega
 have hone:=Jns hs1;obtain⟨q,hq⟩:∃q:Nat,numB s 2 2=(q:Int):=⟨(numB s 2 2).toNat,by omega⟩
 have hqb:=(Jck s 2 2 (by decide)).2;have HGT:=hid hget;have HRR:Hid (itP (getC f) q 0 (s.data.toList.drop 4)=R):=hid (by
   rw [←hR];unfold dirR;rw [if_neg hne,hq,Int.toNat_natCast])
 have gO:((s[1].toNat:Int)==1)=O:=by
  rw [←hO,hone];rfl
 have gle:¬(1:Int)<(s[1].toNat:Int):=by
  rw [←hone];omega
 have gle2:¬1<s[1].toNat:=by omega
 have l3:(1:Int)<(s.size:Int):=by omega
 clear hget hR hone;obtain⟨W2,hW2⟩:=words.nm ((w.alloc (.cells got0 96)).alloc (.cells gotM 96));have hG:GotM w w.heap.size W2:=by rw [hW2];exact GotM.start w
 have HG:=hid hG;obtain⟨g,hg⟩:=words.nm (w.heap.size);have hs2:W2.heap.size=w.heap.size+2:=by rw [hW2];simp
 unfold got0 gotM at hW2;have HW2:=hid hW2;clear hG hW2;go_enter func25,ntmps25
 go_upto_region 2 with fail
 rw [←HW2.out];rw [←hg] at HG hs2 ⊢;clear HW2 hg;have l1:¬(s.size:Int)<1:=by omega
 have l2:(0:Int)<(s.size:Int):=by omega
 have hu:(s[0].toNat:Int)<256:=by have:=s[0].toNat_lt;omega
 go_upto_region 6 with fail
 obtain⟨W3,hW3⟩:=words.nm (W2.alloc (.cells #[.int .i64 2,.bool false,.slice none 0 0,.slice none 0 0,.int .i64 0,.slice none 0 0,.string ⟨#[]⟩] 46));rw [←hW3];have hb3:Below W2.heap.size W2 W3:=words.b1 hW3;have hk3:W3.heap[W2.heap.size]?=some (.cells #[.int .i64 2,.bool false,.slice none 0 0,.slice none 0 0,.int .i64 0,.slice none 0 0,.string ⟨#[]⟩] 46 (0,0)):=by rw [hW3];exact heap_alloc_new W2 _
 rw [hs2] at hk3;replace HG:=hid (HG.out.later hb3);have HK:=hid hk3;clear hW3 hb3 hk3 hs2 hu;clear hkk;have HN1:=hid (show Calls prog 56 #[.string s,.int .i64 2,.int .i64 2] W3 _ from Jak s 2 2 W3 (by decide) (by decide));rw [hq] at hqb;obtain⟨qi,hqi⟩:∃qi:Int,qi=numB s 2 2:=⟨_,rfl⟩
 rw [←hqi] at HN1 hq;have HQI:=hid hq;have hq0:0≤qi:=by omega
 have hq1:¬qi<0:=by omega
 have hq2:qi<65536:=by omega
 clear hq hne hO hqi;obtain⟨W5,hW5⟩:=words.nm (W3.setCell ⟨g+2,1,none⟩ (.bool O));have hD3:Dg w W3 g false (.slice none 0 0) (.slice none 0 0) (.slice none 0 0) (.slice none 0 0) [] [] [] (fun _=>raw0):=
  ⟨HG.out,HK.out,World.ownsRow_nil _ _ _ _,World.ownsRow_nil _ _ _ _,fun i x hx=>by simp at hx,fun i x hx=>by simp at hx⟩
 have HD5:=hid (show Dg w W5 g O (.slice none 0 0) (.slice none 0 0) (.slice none 0 0) (.slice none 0 0) [] [] [] (fun _=>raw0) by rw [hW5];exact hD3.set 1 (.bool O) rfl);have b0:=Jaa HK.out 0;have b1:=Jaa HK.out 1;have b2:=Jaa HK.out 2;have b3:=Jaa HK.out 3;have b4:=Jaa HK.out 4;have b5:=Jaa HK.out 5;have b6:=Jaa HK.out 6;have f1:=Jab HK.out 1;have HW5:=hid hW5;have hqn:q<65536:=by omega
 clear hW5 hD3 HG HK hqb;go_wp2_with fail
 refine HN1.out.mono ?_;rintro e w4 ⟨rfl,rfl⟩;go_upto_region 27 with fail
 rw [←HW5.out];clear HW5 HN1 b0 b1 b2 b3 b4 b5 b6 f1;go_wp2_with fail
 go_loopw [13,7] (fun v13 v7 wr=>∃(i p:Nat) (pI:Int) (N:List ByteArray) (I:List Nd) (vn vi:Value) (rs:Nat→Raw),v13= .int .i64 (i:Int)∧v7= .int .i64 pI∧Hid (pI=(p:Int))∧i≤q∧Hid (p≤s.size)∧Hid (N.length=i∧I.length=i)∧Hid (Dg w wr g O vn vi vn vi N I I rs)∧Hid (R=(itP (getC f) (q - i) 0 (s.data.toList.drop p)).map fun Q=>(N++Q.1,I++Q.2.1,Q.2.2))) (fun v _ _=>q - (intOf v).toNat)
 case atStart=>exact⟨0,4,4,[],[],_,_,_,rfl,rfl,hid rfl,Nat.zero_le _,hid hs4,hid ⟨rfl,rfl⟩,HD5,hid (by rw [←HRR.out,Nat.sub_zero];rcases itP (getC f) q 0 (s.data.toList.drop 4) with _ |⟨a,b,c⟩<;>rfl)⟩
 case round=>
  clear HD5 HRR;obtain⟨i,p,pI,N,I,vn,vi,rs,rfl,rfl,HP,hi,HL,HLen,HD,HX⟩:=hrel;have hp0:0≤pI:=by have:=HP.out;omega
  have hp1:pI≤100000:=by have:=HP.out;have:=HL.out;omega
  have i0:(0:Int)≤(i:Int):=by omega
  by_cases hlt:(i:Int)<qi
  ·have hltn:i<q:=by have:=HQI.out;omega
   obtain⟨qb,hqb⟩:∃qb,numB s p 1=qb:=⟨_,rfl⟩
   have hB4:=Jck s p 1 (by decide);rw [hqb] at hB4;obtain⟨hB40,hB41⟩:=hB4;have HNb:Hid (Calls prog 56 #[.string s,.int .i64 pI,.int .i64 1] wr fun e w'=>e= .returned (.int .i64 qb)∧w'=wr):=hid (by
     have h:=Jak s p 1 wr (by decide) (by have:=HL.out;omega);rw [hqb,←HP.out] at h;exact h)
   have HQb:=hid hqb;have HK1:Hid (q - i=(q - (i+1))+1):=hid (by omega);have r2: -9223372036854775808≤pI+1:=by omega
   have r3:pI+1<9223372036854775808:=by omega
   have r4: -9223372036854775808≤pI+1+qb:=by omega
   have r5:pI+1+qb<9223372036854775808:=by omega
   have w8:IntKind.i64.wrap (pI+1)=pI+1:=IntWalk.i64_in _ (by omega);have w9:IntKind.i64.wrap (pI+1+qb)=pI+1+qb:=IntWalk.i64_in _ (by omega);clear hqb;go_wp2_with fail
   refine HNb.out.mono ?_;rintro e wb ⟨rfl,rfl⟩;clear HNb;by_cases hn0:qb<0
   ·have HE:=hid (show R=none by rw [HX.out,HK1.out,Jrr (.inl (by rw [HQb.out];exact hn0))];rfl)
    obtain⟨n0,n1,n2,n3,n4,n5,n6,n7⟩:=HD.out.m.nons;obtain⟨a0,a1,a2,a3,a4,a5,a6,a7⟩:=HD.out.m.anss;have z0:=HD.out.m.free 0;have z1:=HD.out.m.free 1;have z2:=HD.out.m.free 2;have z3:=HD.out.m.free 3;have z4:=HD.out.m.free 4;have z5:=HD.out.m.free 5;have z6:=HD.out.m.free 6;have z7:=HD.out.m.free 7;have b0:=Jaa HD.out.box 0;have b1:=Jaa HD.out.box 1;have b2:=Jaa HD.out.box 2;have b3:=Jaa HD.out.box 3;have b4:=Jaa HD.out.box 4;have b5:=Jaa HD.out.box 5;have b6:=Jaa HD.out.box 6;go_wp2_with fail
    obtain⟨Wd,hWd,hbd,hkd⟩:=HD.out.m.none;have p0:=Jaa hkd 0;have p1:=Jaa hkd 1;have p2:=Jaa hkd 2;have p3:=Jaa hkd 3;have p4:=Jaa hkd 4;have p5:=Jaa hkd 5;have p6:=Jaa hkd 6;have p7:=Jaa hkd 7;unfold set8 at hWd;unfold gotM at p0 p1 p2 p3 p4 p5 p6 p7;rw [←hWd];exact bodyPost_ret (v:=gotN) (by simp [results,results25,go_sem,gotN,p0,p1,p2,p3,p4,p5,p6,p7]) rfl ⟨.inl ⟨HE.out,rfl⟩,hbd⟩
   ·by_cases hn1:(s.size:Int)<pI+1+qb
    ·have HE:=hid (show R=none by rw [HX.out,HK1.out,Jrr (.inr (by rw [HQb.out,←HP.out];exact hn1))];rfl)
     obtain⟨n0,n1,n2,n3,n4,n5,n6,n7⟩:=HD.out.m.nons;obtain⟨a0,a1,a2,a3,a4,a5,a6,a7⟩:=HD.out.m.anss;have z0:=HD.out.m.free 0;have z1:=HD.out.m.free 1;have z2:=HD.out.m.free 2;have z3:=HD.out.m.free 3;have z4:=HD.out.m.free 4;have z5:=HD.out.m.free 5;have z6:=HD.out.m.free 6;have z7:=HD.out.m.free 7;have b0:=Jaa HD.out.box 0;have b1:=Jaa HD.out.box 1;have b2:=Jaa HD.out.box 2;have b3:=Jaa HD.out.box 3;have b4:=Jaa HD.out.box 4;have b5:=Jaa HD.out.box 5;have b6:=Jaa HD.out.box 6;go_wp2_with fail
     obtain⟨Wd,hWd,hbd,hkd⟩:=HD.out.m.none;have p0:=Jaa hkd 0;have p1:=Jaa hkd 1;have p2:=Jaa hkd 2;have p3:=Jaa hkd 3;have p4:=Jaa hkd 4;have p5:=Jaa hkd 5;have p6:=Jaa hkd 6;have p7:=Jaa hkd 7;unfold set8 at hWd;unfold gotM at p0 p1 p2 p3 p4 p5 p6 p7;rw [←hWd];exact bodyPost_ret (v:=gotN) (by simp [results,results25,go_sem,gotN,p0,p1,p2,p3,p4,p5,p6,p7]) rfl ⟨.inl ⟨HE.out,rfl⟩,hbd⟩
    ·obtain⟨z,hzq⟩:∃z:Nat,qb=(z:Int):=⟨qb.toNat,by omega⟩
     have hpz:p+1+z≤s.size:=by have:=HP.out;omega
     obtain⟨t,ht⟩:=words.nm (s.extract (p+1) (p+1+z));have hts:t.size≤140737488355328:=by rw [ht,ByteArray.size_extract];omega
     obtain⟨u,hu⟩:=words.nm (s.extract (p+1+z) s.size);obtain⟨hul,hus⟩:=Jj4 s (p+1+z) hpz;rw [←hu] at hul hus;have hpi:=HP.out;have hsl:∀wx:World,(Instr.slice 9 (.string s) (some (.int .i64 (pI+1))) (some (.int .i64 (pI+1+qb))) none).run prog wx= .ok (.string t) wx:=fun wx=>by
      rw [run_slice_string_if (P:=prog) (w:=wx) 9 s .i64 .i64 (pI+1) (pI+1+qb) underlying9,if_pos ⟨by omega,by omega⟩,if_pos ⟨by omega,by omega⟩,ht,show (pI+1).toNat=p+1 by omega,show (pI+1+qb).toNat=p+1+z by omega]
     have hsu:∀wx:World,(Instr.slice 9 (.string s) (some (.int .i64 (pI+1+qb))) none none).run prog wx= .ok (.string u) wx:=fun wx=>by
      have h:=run_slice_string_l (P:=prog) wx 9 s underlying9 .i64 (pI+1+qb) (by omega) (by omega);rw [show (pI+1+qb).toNat=p+1+z by omega,←hu] at h;exact h
     have HGU:=hid (fun wx=>HGT.out u wx (by omega));have HN1:Hid (numB s p 1=(z:Int)):=hid (by rw [HQb.out];exact hzq);have hNl:N.length≤100000:=by have:=HLen.out;omega
     have hIl:I.length≤100000:=by have:=HLen.out;omega
     have hgz:g+3≤wb.heap.size:=HD.out.lt;have b2:=Jaa HD.out.box 2;have b2o:∀o:Obj,(wb.alloc o).cell? ⟨g+2,2,none⟩=some vn:=fun o=>Jaa (HD.out.later ((Below.refl _ _).alloc (Nat.le_refl _) o)).box 2;have HDA:=hid (fun o:Obj=>HD.out.later (((Below.refl _ _).alloc (Nat.le_refl _) o).drew));have HUL:=hid hul;have HUS:=hid hus;have HT:=hid ht;have HZQ:=hid hzq;have HPZ:=hid hpz;clear ht hu hul hus hpi HQb hzq hpz;go_upto_region 33 with fail
     go_region_law
      ((refine step_append_lies _ (by rfl) _ _ _ (by rfl) (g+3) 9 iS _ 1 16 underlying27 hiS zS0 zS1 zS2 rfl (by omega) vn N.length (N.map Value.string) (by rfl) (HDA.out _).nrow
          ⟨wb.heap.size,0,none⟩ 1 1 [.string t] (by rfl) (by rfl) (World.news_of_block (cs:=#[.string t]) (t:=9) (fr:=(0,0)) (heap_alloc_new wb _)) (by simp [Value.oneCell'])
          (by omega) (by simp only [maxLen];omega) (by omega) (by simp;omega) (wb.heap.size+1) (by simp) ?_;intro gg cap w1 hown1 hgrow hat hlt1;have hc1:=Jaa ((HDA.out _).nstay hgrow) 2;have hf1:=Jab ((HDA.out _).nstay hgrow) 2))
     all_goals
      have HD6':=((HDA.out _).names (x:=t) hts hown1 hgrow (hat.imp (fun e=>e) fun e=>by rw [e];simp [Value.ownBlock])).set 2 (.slice (some ⟨gg,0,none⟩) (N.length+1) cap) (O':=O) (bn':= .slice (some ⟨gg,0,none⟩) (N.length+1) cap) (bi':=vi) rfl;obtain⟨vn',hvn⟩:∃vn',vn'=Value.slice (some ⟨gg,0,none⟩) (N.length+1) cap:=⟨_,rfl⟩
      obtain⟨W6,hW6⟩:=words.nm (w1.setCell ⟨g+2,2,none⟩ (.slice (some ⟨gg,0,none⟩) (N.length+1) cap));rw [←hW6,←hvn] at HD6';have HD6:=hid HD6';have HW6:=hid hW6;have HVN:=hid hvn;have wd:IntKind.i64.wrap (d+1)=d+1:=IntWalk.i64_in _ (by omega);clear HD6' hown1 hgrow hat hlt1 b2 b2o hsl hW6 hvn;go_upto_region 34 with fail
      rw [←HW6.out];clear hc1 hf1;go_wp2_with fail
      refine (HGU.out _).mono ?_;rintro e w7 ⟨(⟨hno,rfl⟩ |⟨n',p',pI',r',hRR,hp',hpI',rfl,hnd⟩),hb7⟩
      ·unfold gotN
       obtain⟨W8,hW8⟩:=words.nm (w7.alloc (.cells gotM 96));have hb8:Below w7.heap.size w7 W8:=words.b1 hW8;have hk8:W8.heap[w7.heap.size]?=some (.cells gotM 96 (0,0)):=by rw [hW8];exact heap_alloc_new w7 _
       have HD8:=hid ((HD6.out.later hb7).later hb8);have HE:=hid (show R=none by rw [HX.out,HK1.out,Jxj HN1.out HPZ.out (by rw [←HUL.out];exact hno)];rfl);have k7:W8.cell? ⟨w7.heap.size,7,none⟩=some (.int .i64 (-1)):=Jaa hk8 7;unfold gotM at hW8;have HW8:=hid hW8;clear hb7 hb8 hk8 hW8 hno HX HGU;go_upto_region 35 with fail
       rw [←HW8.out];obtain⟨n0,n1,n2,n3,n4,n5,n6,n7⟩:=HD8.out.m.nons;obtain⟨a0,a1,a2,a3,a4,a5,a6,a7⟩:=HD8.out.m.anss;have z0:=HD8.out.m.free 0;have z1:=HD8.out.m.free 1;have z2:=HD8.out.m.free 2;have z3:=HD8.out.m.free 3;have z4:=HD8.out.m.free 4;have z5:=HD8.out.m.free 5;have z6:=HD8.out.m.free 6;have z7:=HD8.out.m.free 7;have b0:=Jaa HD8.out.box 0;have b1:=Jaa HD8.out.box 1;have b2:=Jaa HD8.out.box 2;have b3:=Jaa HD8.out.box 3;have b4:=Jaa HD8.out.box 4;have b5:=Jaa HD8.out.box 5;have b6:=Jaa HD8.out.box 6;go_wp2_with fail
       obtain⟨Wd,hWd,hbd,hkd⟩:=HD8.out.m.none;have p0:=Jaa hkd 0;have p1:=Jaa hkd 1;have p2:=Jaa hkd 2;have p3:=Jaa hkd 3;have p4:=Jaa hkd 4;have p5:=Jaa hkd 5;have p6:=Jaa hkd 6;have p7:=Jaa hkd 7;unfold set8 at hWd;unfold gotM at p0 p1 p2 p3 p4 p5 p6 p7;rw [←hWd];exact bodyPost_ret (v:=gotN) (by simp [results,results25,go_sem,gotN,p0,p1,p2,p3,p4,p5,p6,p7]) rfl ⟨.inl ⟨HE.out,rfl⟩,hbd⟩
      ·unfold gotV
       obtain⟨W8,hW8⟩:=words.nm (w7.alloc (.cells #[.int .i64 n'.K,.bool n'.O,.slice r'.An n'.N.length r'.cn,.slice r'.Ai n'.I.length r'.ci,.int .i64 n'.S,.slice r'.Ae n'.E.length r'.ce,.string n'.T,.int .i64 pI'] 96));have hb8:Below w7.heap.size w7 W8:=words.b1 hW8;have hk8:W8.heap[w7.heap.size]?=some (.cells #[.int .i64 n'.K,.bool n'.O,.slice r'.An n'.N.length r'.cn,.slice r'.Ai n'.I.length r'.ci,.int .i64 n'.S,.slice r'.Ae n'.E.length r'.ce,.string n'.T,.int .i64 pI'] 96 (0,0)):=by rw [hW8];exact heap_alloc_new w7 _
       obtain⟨W9,hW9⟩:=words.nm (W8.alloc (.cells (rawCells n' r') 46));have hb9:Below W8.heap.size W8 W9:=words.b1 hW9;have hk9:W9.heap[W8.heap.size]?=some (.cells (rawCells n' r') 46 (0,0)):=by rw [hW9];exact heap_alloc_new W8 _
       have hb79:=hb8.trans (hb9.mono hb8.size);have HD8:=hid ((HD6.out.later hb7).later hb8);have hd9:=HD8.out.later hb9;have hnd9:NdIn W9 (fun b=>W6.heap.size≤b∧b<W9.heap.size) n' r':=hnd.keep fun b hb=>⟨hb79.block b hb.2,hb.1,Nat.lt_of_lt_of_le hb.2 hb79.size⟩
       have HD9:=hid (hd9.pend HD6.out hnd9);have HNW:=hid (World.news_of_block hk9);have HK7:Hid (∀w':World,W9.grownBy w' vi.ownBlock→w'.cell? ⟨w7.heap.size,7,none⟩=some (.int .i64 pI')):=hid fun w' hg=>by
        have hkk:=(hb9.block _ (lt_of_some hk8)).trans hk8;have hlt6:=HD6.out.irow.lt;refine Jaa ((hg.block _ (lt_of_some hkk) fun e=>?_).trans hkk) 7;have h6:=(hlt6 _ e.symm).2;have h7:=hb7.size;omega
       have k7:W8.cell? ⟨w7.heap.size,7,none⟩=some (.int .i64 pI'):=Jaa hk8 7;have k0:=Jaa hk8 0;have k1:=Jaa hk8 1;have k2:=Jaa hk8 2;have k3:=Jaa hk8 3;have k4:=Jaa hk8 4;have k5:=Jaa hk8 5;have k6:=Jaa hk8 6;have e3:=Jaa HD8.out.box 3;have hgz9:g+3≤W9.heap.size:=hd9.lt;have hpu:(p':Int)≤100000:=by have:=HUS.out;omega
       have hq0':¬pI'<0:=by omega
       have hX2:Hid (R=(itP (getC f) (q - (i+1)) 0 (s.data.toList.drop (p+1+z+p'))).map fun Q=>((N++[t])++Q.1,(I++[n'])++Q.2.1,Q.2.2)):=hid (by
         have hdd:u.data.toList.drop p'=s.data.toList.drop (p+1+z+p'):=by rw [HUL.out,List.drop_drop]
         rw [HX.out,HK1.out,Jtv HN1.out HPZ.out (x:=n') (l:=s.data.toList.drop (p+1+z+p')) (by rw [←HUL.out,hRR,hdd]),←HT.out];rcases itP (getC f) (q - (i+1)) 0 (s.data.toList.drop (p+1+z+p')) with _ |⟨N2,I2,l2⟩
         ·rfl
         ·simp)
       have HP2:=hid (show pI+1+qb+pI'=((p+1+z+p':Nat):Int) by have:=HP.out;have:=HZQ.out;omega);have HL2:=hid (show p+1+z+p'≤s.size by have:=HUS.out;have:=HPZ.out;omega);have HLen2:=hid (show (N++[t]).length=i+1∧(I++[n']).length=i+1 by rw [List.length_append,List.length_append,HLen.out.1,HLen.out.2];exact⟨rfl,rfl⟩);have w10:IntKind.i64.wrap (pI+1+qb+pI')=pI+1+qb+pI':=IntWalk.i64_in _ (by omega);have HIO:=hid (Jik n' r');have HRC:=hid (Jdg I n' rs r');unfold rawCells at hW9;have HW8:=hid hW8;have HW9:=hid hW9.symm;clear hb7 hb8 hk8 hb9 hk9 hb79 hd9 hnd9 hnd hRR hW8 hW9 HX HGU hp' hpI';go_upto_region 35 with fail
       rw [←HW8.out];go_wp2_with (at_builtin;rw [HW9.out];refine wpList_append_lies _ rfl (.tmp 148) (.tmp 151) 22 rfl (g+3) 46 iX _ 7 112 underlying22 hiX zX0 zX1 zX2 rfl (by omega) vi I.length (rowCells I (rsPut rs I.length r')) rfl HD9.out.irow ⟨W8.heap.size,0,none⟩ 1 1 (rawCells n' r').toList rfl rfl HNW.out HIO.out (by omega) (by simp only [maxLen];omega) (by omega) (by omega) W9.heap.size rfl ?_;intro g2 cap2 w10' hown2 hgrow2 hat2 hlt2;have hbx:=(hgrow2.block _ (lt_of_some HD9.out.box) (HD9.out.low.2 _ (by omega)).symm).trans HD9.out.box;have hc3:=Jaa hbx 3;have hf3:=Jab hbx 3;have k7':=HK7.out _ hgrow2)
       have HDn:=hid ((HD9.out.entry (y:=n') (vi':= .slice (some ⟨g2,0,none⟩) (I.length+1) cap2) (by rw [HRC.out];exact hown2) hgrow2 (by rcases hat2 with e |e;exact .inl e;exact .inr (by rw [e];rfl))).set 3 (.slice (some ⟨g2,0,none⟩) (I.length+1) cap2) (O':=O) (bn':=vn') (bi':= .slice (some ⟨g2,0,none⟩) (I.length+1) cap2) rfl);clear hown2 hgrow2 hat2 hlt2 hbx;go_wp2_with fail
       go_roundw
       case rel=>exact⟨i+1,p+1+z+p',pI+1+qb+pI',N++[t],I++[n'],vn',_,rsPut rs I.length r',by go_num,rfl,HP2,by omega,HL2,HLen2,HDn,hX2⟩
       case measure=>simp [intOf];omega
  ·obtain⟨An,cn,rfl,hcn,_⟩:=own_facts HD.out.nrow
   obtain⟨Ai,ci,rfl,hci,_⟩:=own_facts HD.out.irow;have HR2:=hid (show R=some (N,I,s.data.toList.drop p,0) by
     rw [HX.out,show q - i=0 by have:=HQI.out;omega];show some (N++[],I++[],_)=_;rw [List.append_nil,List.append_nil])
   have HLE:=hid (show N.length≤100000∧I.length≤100000 by have:=HLen.out;omega);clear hcn hci HX;obtain⟨n0,n1,n2,n3,n4,n5,n6,n7⟩:=HD.out.m.nons;obtain⟨a0,a1,a2,a3,a4,a5,a6,a7⟩:=HD.out.m.anss;have z0:=HD.out.m.free 0;have z1:=HD.out.m.free 1;have z2:=HD.out.m.free 2;have z3:=HD.out.m.free 3;have z4:=HD.out.m.free 4;have z5:=HD.out.m.free 5;have z6:=HD.out.m.free 6;have z7:=HD.out.m.free 7;have b0:=Jaa HD.out.box 0;have b1:=Jaa HD.out.box 1;have b2:=Jaa HD.out.box 2;have b3:=Jaa HD.out.box 3;have b4:=Jaa HD.out.box 4;have b5:=Jaa HD.out.box 5;have b6:=Jaa HD.out.box 6;go_wp2_with fail
   obtain⟨Wd,hWd,hbd,hkd⟩:=HD.out.m.put (.int .i64 2) (.bool O) (.slice An N.length cn) (.slice Ai I.length ci) (.int .i64 0) (.slice none 0 0) (.string ⟨#[]⟩) (.int .i64 pI);have hnd:=HD.out.node HLE.out (w':=Wd) (fun b hb _=>by rw [hWd];exact Jpc (by omega) _ _ _ _ _ _ _ _) (by rw [hWd];exact Jpr ..);have p0:=Jaa hkd 0;have p1:=Jaa hkd 1;have p2:=Jaa hkd 2;have p3:=Jaa hkd 3;have p4:=Jaa hkd 4;have p5:=Jaa hkd 5;have p6:=Jaa hkd 6;have p7:=Jaa hkd 7;unfold set8 at hWd;rw [←hWd];exact bodyPost_ret (v:=gotV (.mk 2 O N I 0 [] ⟨#[]⟩) ⟨An,cn,Ai,ci,none,0⟩ pI) (by simp [results,results25,go_sem,gotV,p0,p1,p2,p3,p4,p5,p6,p7,Nd.K,Nd.O,Nd.N,Nd.I,Nd.S,Nd.E,Nd.T]) rfl ⟨.inr ⟨N,I,p,0,pI,_,HR2.out,HL.out,HP.out,rfl,hnd⟩,hbd⟩

theorem Jrj:∀(f:Nat),f≤16→∀(s:ByteArray) (d:Int) (w:World),d=16 - (f:Int)→s.size≤100000→Calls prog 25 #[.string s,.int .i64 d] w (GetOut s (getP f s.data.toList) w)
 |0,_,s,d,w,hd,_=>(Jr3 s d w (.inl (by omega))).mono fun e w' h=>⟨.inl ⟨rfl,h.1⟩,h.2⟩
 |f+1,hf,s,d,w,hd,hs=>by
  have h1:¬15<d:=by omega
  have hl:s.data.toList.length=s.size:=rfl;rcases Nat.eq_zero_or_pos s.size with h0 |h2
  ·exact (Jr3 s d w (.inr h0)).mono fun e w' h=>⟨.inl ⟨Jn4 h0,h.1⟩,h.2⟩
  ·have hk:s[0].toNat=1∨s[0].toNat=2∨s[0].toNat=3∨s[0].toNat=4∨(s[0].toNat≠1∧s[0].toNat≠2∧s[0].toNat≠3∧s[0].toNat≠4):=by omega
   rcases hk with hk |hk |hk |hk |hk
   ·refine (Jvi s d w h1 h2 hs hk _ _ rfl rfl _ rfl).mono ?_
    rintro e w' ⟨h,hb⟩;refine⟨?_,hb⟩;rcases h with⟨h,he⟩ |⟨E,p,pI,r,h,h3,h4,h5,h6⟩
    ·exact .inl ⟨by rw [Jjl h2 hk,h];rfl,he⟩
    ·exact .inr ⟨_,p,pI,r,by rw [Jjl h2 hk,h];rfl,h3,h4,h5,h6⟩
   ·by_cases hh:numB s 2 2<0∨1<numB s 1 1
    ·refine (Joo s d w h1 h2 hk hh).mono fun e w' h=>⟨.inl ⟨?_,h.1⟩,h.2⟩
     rw [Jh4 h2 hk];unfold dirR;rw [if_pos hh];rfl
    ·refine (Jv9 f s d w h1 (by omega) h2 hs hk hh _ rfl _ rfl fun t w ht=>Jrj f (by omega) t (d+1) w (by omega) ht).mono ?_
     rintro e w' ⟨h,hb⟩;refine⟨?_,hb⟩;rcases h with⟨h,he⟩ |⟨N,I,p,c,pI,r,h,h3,h4,h5,h6⟩
     ·exact .inl ⟨by rw [Jh4 h2 hk,h];rfl,he⟩
     ·exact .inr ⟨_,p,pI,r,by rw [Jh4 h2 hk,h];rfl,h3,h4,h5,h6⟩
   ·refine (Js7 s d w h1 h2 (by omega) hk _ rfl).mono ?_
    rintro e w' ⟨h,hb⟩;refine⟨?_,hb⟩;rcases h with⟨h,he⟩ |⟨z,h3,h4,r,h5,h6⟩
    ·exact .inl ⟨Jjx h2 hk h,he⟩
    ·exact .inr ⟨_,3+z,3+numB s 1 2,r,Jqf h2 hk h3 h4,h4,by rw [h3];omega,h5,h6⟩
   ·refine (Jq8 s d w h1 h2 hk).mono ?_
    rintro e w' ⟨⟨r,h5,h6⟩,hb⟩;exact⟨.inr ⟨_,1,1,r,Jox h2 hk,h2,rfl,h5,h6⟩,hb⟩
   ·exact (Jry s d w h1 h2 hk).mono fun e w' h=>⟨.inl ⟨Jo9 h2 hk,h.1⟩,h.2⟩
def refD (s:ByteArray):Option Nd:=if s.size<7∨s.extract 0 7≠magic then none else getL (s.data.toList.drop 7)
def RefDec (s:ByteArray) (w:World) (e:Ending) (w':World):Prop:=
 ((∃n r,refD s=some n∧e= .returned (.tuple #[ndV n r,.bool true])∧NdIn w' (Fresh w w') n r)∨(refD s=none∧e= .returned (.tuple #[ndV nd0 raw0,.bool false])))∧Below w.heap.size w w'
theorem over7 {w:World} {g:Nat} {T:TypeId} {c0 c1 c2 c3 c4 c5 c6 u0 u1 u2 u3 u4 u5 u6:Value} (h:w.heap[g]?=some (.cells #[c0,c1,c2,c3,c4,c5,c6] T (0,0))):
  (((((((w.setCell ⟨g,0,none⟩ u0).setCell ⟨g,1,none⟩ u1).setCell ⟨g,2,none⟩ u2).setCell ⟨g,3,none⟩ u3).setCell ⟨g,4,none⟩ u4).setCell ⟨g,5,none⟩ u5).setCell ⟨g,6,none⟩ u6).heap[g]?=some (.cells #[u0,u1,u2,u3,u4,u5,u6] T (0,0)):=by
 simp [World.setCell,Array.getElem?_modify,h]
def set7 (w:World) (g:Nat) (u0 u1 u2 u3 u4 u5 u6:Value):World:=((((((w.setCell ⟨g,0,none⟩ u0).setCell ⟨g,1,none⟩ u1).setCell ⟨g,2,none⟩ u2).setCell ⟨g,3,none⟩ u3).setCell ⟨g,4,none⟩ u4).setCell ⟨g,5,none⟩ u5).setCell ⟨g,6,none⟩ u6
theorem Jn9 {w:World} {g b:Nat} (h:b≠g) (u0 u1 u2 u3 u4 u5 u6:Value):(set7 w g u0 u1 u2 u3 u4 u5 u6).heap[b]?=w.heap[b]?:=by
 unfold set7;have e:∀(w:World) (j:Nat) (u:Value),(w.setCell ⟨g,j,none⟩ u).heap[b]?=w.heap[b]?:=fun w j u=>Below.heap_setCell w ⟨g,j,none⟩ u b h;rw [e,e,e,e,e,e,e]
theorem Jr2 (w:World) (g:Nat) (u0 u1 u2 u3 u4 u5 u6:Value):w.heap.size≤(set7 w g u0 u1 u2 u3 u4 u5 u6).heap.size:=by
 unfold set7;simp [World.setCell]
theorem Below.set7 {S g:Nat} {a w:World} (h:Below S a w) (hg:S≤g) (u0 u1 u2 u3 u4 u5 u6:Value):Below S a (ima.set7 w g u0 u1 u2 u3 u4 u5 u6):=
 ((((((h.setCell (p:=⟨g,0,none⟩) hg _).setCell (p:=⟨g,1,none⟩) hg _).setCell (p:=⟨g,2,none⟩) hg _).setCell (p:=⟨g,3,none⟩) hg _).setCell (p:=⟨g,4,none⟩) hg _).setCell (p:=⟨g,5,none⟩) hg _).setCell (p:=⟨g,6,none⟩) hg _
theorem Jk3 {l:List UInt8}:getL l=match getP 16 l with |some (n,[])=>if refB n=true then some n else none |_=>none:=rfl
theorem refdecode_any (s:ByteArray) (w:World) (hsm:s.size≤4000):
  Calls prog 11 #[.string s] w (RefDec s w):=by
 obtain⟨W1,hW1⟩:=words.nm (w.alloc (.cells #[.int .i64 0,.bool false,.slice none 0 0,.slice none 0 0,.int .i64 0,.slice none 0 0,.string ⟨#[]⟩] 46));have hb1:=words.b1 hW1;have hk1:W1.heap[w.heap.size]?=some (.cells #[.int .i64 0,.bool false,.slice none 0 0,.slice none 0 0,.int .i64 0,.slice none 0 0,.string ⟨#[]⟩] 46 (0,0)):=by rw [hW1];exact heap_alloc_new w _
 have HB1:=hid hb1;have HK1:=hid hk1;have HW1:=hid hW1;obtain⟨g,hg⟩:=words.nm (w.heap.size);rw [←hg] at HK1;have HG:=hid hg;have HNO:Hid (∀(W W9:World),refD s=none→Below w.heap.size w W→W9=set7 W g (.int .i64 0) (.bool false) (.slice none 0 0) (.slice none 0 0) (.int .i64 0) (.slice none 0 0) (.string ⟨#[]⟩)→RefDec s w (.returned (.tuple #[ndV nd0 raw0,.bool false])) W9):=hid fun W W9 h hb e=>⟨.inr ⟨h,rfl⟩,by rw [e];exact Below.set7 hb (by omega) _ _ _ _ _ _ _⟩
 have HL:Hid (s.size<7∨s.extract 0 7≠magic→refD s=none):=hid fun h=>by unfold refD;rw [if_pos h]
 have HR:Hid (¬(s.size<7∨s.extract 0 7≠magic)→refD s=getL (s.data.toList.drop 7)):=hid fun h=>by unfold refD;rw [if_neg h]
 have hx0:∀w:World,7≤s.size→(Instr.slice 9 (.string s) none (some (.int .i64 7)) none).run prog w= .ok (.string (s.extract 0 7)) w:=fun w h=>run_slice_string_h (P:=prog) w 9 s underlying9 .i64 7 (by decide) (by omega);clear hb1 hk1 hW1;go_enter func11,ntmps11
 go_upto_region 1 with fail
 rw [←HW1.out];rw [←hg];clear hg;have g4:¬(4194304:Int)<(s.size:Int):=by omega
 have g5:¬4194304<s.size:=by omega
 have c0:=Jaa HK1.out 0;have z0:=Jab HK1.out 0;have c1:=Jaa HK1.out 1;have z1:=Jab HK1.out 1;have c2:=Jaa HK1.out 2;have z2:=Jab HK1.out 2;have c3:=Jaa HK1.out 3;have z3:=Jab HK1.out 3;have c4:=Jaa HK1.out 4;have z4:=Jab HK1.out 4;have c5:=Jaa HK1.out 5;have z5:=Jab HK1.out 5;have c6:=Jaa HK1.out 6;have z6:=Jab HK1.out 6;by_cases h7:s.size<7
 ·have l7:(s.size:Int)<7:=by omega
  clear hx0;go_wp2_with fail
  obtain⟨W9,hW9⟩:=words.nm (set7 W1 g (.int .i64 0) (.bool false) (.slice none 0 0) (.slice none 0 0) (.int .i64 0) (.slice none 0 0) (.string ⟨#[]⟩));have hk9:W9.heap[g]?=some (.cells #[.int .i64 0,.bool false,.slice none 0 0,.slice none 0 0,.int .i64 0,.slice none 0 0,.string ⟨#[]⟩] 46 (0,0)):=by rw [hW9];exact over7 HK1.out
  have HF:=hid (HNO.out W1 W9 (HL.out (.inl h7)) HB1.out hW9);have p0:=Jaa hk9 0;have p1:=Jaa hk9 1;have p2:=Jaa hk9 2;have p3:=Jaa hk9 3;have p4:=Jaa hk9 4;have p5:=Jaa hk9 5;have p6:=Jaa hk9 6;unfold set7 at hW9;rw [←hW9];exact bodyPost_ret (v:= .tuple #[ndV nd0 raw0,.bool false]) (by simp [results,results11,go_sem,ndV,rawCells,nd0,raw0,Nd.K,Nd.O,Nd.N,Nd.I,Nd.S,Nd.E,Nd.T,p0,p1,p2,p3,p4,p5,p6]) rfl HF.out
 have l7:¬(s.size:Int)<7:=by omega
 have l8:(7:Int)≤(s.size:Int):=by omega
 have hx1:=fun w=>hx0 w (by omega);obtain⟨hd7,hhd⟩:=words.nm (s.extract 0 7);rw [←hhd] at hx1;clear hx0;by_cases hp:hd7=magic
 rotate_left
 ·have hne:(hd7.toList==[115,111,99,97,103,101,49])=false:=by
   rw [beq_eq_false_iff_ne];intro h;exact hp (ByteArray.ext (Array.ext' (by rw [←ByteArray.toList_eq,h];rfl)))
  have HE:=hid (HL.out (.inr (by rw [←hhd];exact hp)));clear hp hhd;go_wp2_with fail
  obtain⟨W9,hW9⟩:=words.nm (set7 W1 g (.int .i64 0) (.bool false) (.slice none 0 0) (.slice none 0 0) (.int .i64 0) (.slice none 0 0) (.string ⟨#[]⟩));have hk9:W9.heap[g]?=some (.cells #[.int .i64 0,.bool false,.slice none 0 0,.slice none 0 0,.int .i64 0,.slice none 0 0,.string ⟨#[]⟩] 46 (0,0)):=by rw [hW9];exact over7 HK1.out
  have HF:=hid (HNO.out W1 W9 HE.out HB1.out hW9);have p0:=Jaa hk9 0;have p1:=Jaa hk9 1;have p2:=Jaa hk9 2;have p3:=Jaa hk9 3;have p4:=Jaa hk9 4;have p5:=Jaa hk9 5;have p6:=Jaa hk9 6;unfold set7 at hW9;rw [←hW9];exact bodyPost_ret (v:= .tuple #[ndV nd0 raw0,.bool false]) (by simp [results,results11,go_sem,ndV,rawCells,nd0,raw0,Nd.K,Nd.O,Nd.N,Nd.I,Nd.S,Nd.E,Nd.T,p0,p1,p2,p3,p4,p5,p6]) rfl HF.out
 ·have hne:(hd7.toList==[115,111,99,97,103,101,49])=true:=by
   rw [hp,ByteArray.toList_eq];rfl
  have HE:=hid (HR.out (by rw [←hhd];exact fun h=>h.elim h7 fun h=>h hp));obtain⟨t,ht⟩:=words.nm (s.extract 7 s.size);obtain⟨htl,hts⟩:=Jj4 s 7 (by omega);rw [←ht] at htl hts;have hx2:∀w:World,(Instr.slice 9 (.string s) (some (.int .i64 7)) none none).run prog w= .ok (.string t) w:=fun w=>by
   have h:=run_slice_string_l (P:=prog) w 9 s underlying9 .i64 7 (by decide) (by omega);rw [show (7:Int).toNat=7 from rfl,←ht] at h;exact h
  have HGT:=hid (Jrj 16 (Nat.le_refl _) t 0 W1 (by decide) (by omega));have HTL:=hid htl;have HTS:=hid hts;clear hp hhd ht htl hts z0 z1 z2 z3 z4 z5 z6 c0 c1 c2 c3 c4 c5 c6;go_wp2_with fail
  refine HGT.out.mono ?_;rintro e w2 ⟨(⟨hno,rfl⟩ |⟨n,p,pI,r,hRR,hp,hpI,rfl,hnd⟩),hb2⟩
  ·unfold gotN
   obtain⟨W3,hW3⟩:=words.nm (w2.alloc (.cells gotM 96));have hb3:Below w2.heap.size w2 W3:=words.b1 hW3;have hk3:W3.heap[w2.heap.size]?=some (.cells gotM 96 (0,0)):=by rw [hW3];exact heap_alloc_new w2 _
   have k7:W3.cell? ⟨w2.heap.size,7,none⟩=some (.int .i64 (-1)):=Jaa hk3 7;have hk13:=(hb3.block _ (Nat.lt_of_lt_of_le (lt_of_some HK1.out) hb2.size)).trans ((hb2.block _ (lt_of_some HK1.out)).trans HK1.out);have HB3:=hid ((HB1.out.trans (hb2.mono HB1.out.size)).trans (hb3.mono (Nat.le_trans HB1.out.size hb2.size)));have HEN:=hid (show refD s=none by rw [HE.out,←HTL.out,Jk3,hno]);have gl:((-1:Int) !=(s.size:Int) - 7)=true:=by
    rw [bne_iff_ne];omega
   have ww:IntKind.i64.wrap ((s.size:Int) - 7)=(s.size:Int) - 7:=IntWalk.i64_in _ (by omega);have HKa:=hid hk13;have c0:=Jaa HKa.out 0;have z0:=Jab HKa.out 0;have c1:=Jaa HKa.out 1;have z1:=Jab HKa.out 1;have c2:=Jaa HKa.out 2;have z2:=Jab HKa.out 2;have c3:=Jaa HKa.out 3;have z3:=Jab HKa.out 3;have c4:=Jaa HKa.out 4;have z4:=Jab HKa.out 4;have c5:=Jaa HKa.out 5;have z5:=Jab HKa.out 5;have c6:=Jaa HKa.out 6;have z6:=Jab HKa.out 6;unfold gotM at hW3;have HW3:=hid hW3;have HK13:=hid hk13;clear hb2 hb3 hk3 hk13 hW3 hno;go_upto_region 4 with fail
   rw [←HW3.out];go_wp2_with fail
   obtain⟨W9,hW9⟩:=words.nm (set7 W3 g (.int .i64 0) (.bool false) (.slice none 0 0) (.slice none 0 0) (.int .i64 0) (.slice none 0 0) (.string ⟨#[]⟩));have hk9:W9.heap[g]?=some (.cells #[.int .i64 0,.bool false,.slice none 0 0,.slice none 0 0,.int .i64 0,.slice none 0 0,.string ⟨#[]⟩] 46 (0,0)):=by rw [hW9];exact over7 HK13.out
   have HF:=hid (HNO.out W3 W9 HEN.out HB3.out hW9);have p0:=Jaa hk9 0;have p1:=Jaa hk9 1;have p2:=Jaa hk9 2;have p3:=Jaa hk9 3;have p4:=Jaa hk9 4;have p5:=Jaa hk9 5;have p6:=Jaa hk9 6;unfold set7 at hW9;rw [←hW9];exact bodyPost_ret (v:= .tuple #[ndV nd0 raw0,.bool false]) (by simp [results,results11,go_sem,ndV,rawCells,nd0,raw0,Nd.K,Nd.O,Nd.N,Nd.I,Nd.S,Nd.E,Nd.T,p0,p1,p2,p3,p4,p5,p6]) rfl HF.out
  ·unfold gotV
   obtain⟨W3,hW3⟩:=words.nm (w2.alloc (.cells #[.int .i64 n.K,.bool n.O,.slice r.An n.N.length r.cn,.slice r.Ai n.I.length r.ci,.int .i64 n.S,.slice r.Ae n.E.length r.ce,.string n.T,.int .i64 pI] 96));have hb3:Below w2.heap.size w2 W3:=words.b1 hW3;have hk3:W3.heap[w2.heap.size]?=some (.cells #[.int .i64 n.K,.bool n.O,.slice r.An n.N.length r.cn,.slice r.Ai n.I.length r.ci,.int .i64 n.S,.slice r.Ae n.E.length r.ce,.string n.T,.int .i64 pI] 96 (0,0)):=by rw [hW3];exact heap_alloc_new w2 _
   have k0:=Jaa hk3 0;have k1:=Jaa hk3 1;have k2:=Jaa hk3 2;have k3:=Jaa hk3 3;have k4:=Jaa hk3 4;have k5:=Jaa hk3 5;have k6:=Jaa hk3 6;have k7:=Jaa hk3 7;have hk13:=(hb3.block _ (Nat.lt_of_lt_of_le (lt_of_some HK1.out) hb2.size)).trans ((hb2.block _ (lt_of_some HK1.out)).trans HK1.out);have HB3:=hid ((HB1.out.trans (hb2.mono HB1.out.size)).trans (hb3.mono (Nat.le_trans HB1.out.size hb2.size)));have hnd3:NdIn W3 (fun b=>W1.heap.size≤b∧b<W3.heap.size) n r:=hnd.keep fun b hb=>⟨hb3.block b hb.2,hb.1,Nat.lt_of_lt_of_le hb.2 hb3.size⟩
   obtain⟨hin1,hin2⟩:=Jix _ _ _ _ hRR;have ww:IntKind.i64.wrap ((s.size:Int) - 7)=(s.size:Int) - 7:=IntWalk.i64_in _ (by omega);have HND:=hid hnd3;have HK13:=hid hk13;have HK3:=hid hk3;have HRR:=hid hRR;have HIN:=hid (And.intro hin1 hin2);have HW3:=hid hW3;clear hb2 hb3 hk3 hk13 hW3 hnd hnd3 hin1 hin2 hRR;by_cases hpe:p=t.size
   rotate_left
   ·have HEN:=hid (show refD s=none by
      rw [HE.out,←HTL.out,Jk3,HRR.out];have hne:t.data.toList.drop p≠[]:=fun h=>by
       have:=congrArg List.length h;rw [List.length_drop,show t.data.toList.length=t.size from rfl] at this;simp at this;omega
      rcases hdd:t.data.toList.drop p with _ |⟨a,l⟩
      ·exact absurd hdd hne
      ·rfl)
    have gl:(pI !=(s.size:Int) - 7)=true:=by
     rw [bne_iff_ne];have:=HTS.out;omega
    clear hpe hp hpI;have c0:=Jaa HK13.out 0;have z0:=Jab HK13.out 0;have c1:=Jaa HK13.out 1;have z1:=Jab HK13.out 1;have c2:=Jaa HK13.out 2;have z2:=Jab HK13.out 2;have c3:=Jaa HK13.out 3;have z3:=Jab HK13.out 3;have c4:=Jaa HK13.out 4;have z4:=Jab HK13.out 4;have c5:=Jaa HK13.out 5;have z5:=Jab HK13.out 5;have c6:=Jaa HK13.out 6;have z6:=Jab HK13.out 6;go_upto_region 4 with fail
    rw [←HW3.out];go_wp2_with fail
    obtain⟨W9,hW9⟩:=words.nm (set7 W3 g (.int .i64 0) (.bool false) (.slice none 0 0) (.slice none 0 0) (.int .i64 0) (.slice none 0 0) (.string ⟨#[]⟩));have hk9:W9.heap[g]?=some (.cells #[.int .i64 0,.bool false,.slice none 0 0,.slice none 0 0,.int .i64 0,.slice none 0 0,.string ⟨#[]⟩] 46 (0,0)):=by rw [hW9];exact over7 HK13.out
    have HF:=hid (HNO.out W3 W9 HEN.out HB3.out hW9);have p0:=Jaa hk9 0;have p1:=Jaa hk9 1;have p2:=Jaa hk9 2;have p3:=Jaa hk9 3;have p4:=Jaa hk9 4;have p5:=Jaa hk9 5;have p6:=Jaa hk9 6;unfold set7 at hW9;rw [←hW9];exact bodyPost_ret (v:= .tuple #[ndV nd0 raw0,.bool false]) (by simp [results,results11,go_sem,ndV,rawCells,nd0,raw0,Nd.K,Nd.O,Nd.N,Nd.I,Nd.S,Nd.E,Nd.T,p0,p1,p2,p3,p4,p5,p6]) rfl HF.out
   ·have gl:(pI !=(s.size:Int) - 7)=false:=by
     rw [bne_eq_false_iff_eq];have:=HTS.out;omega
    have HNIL:Hid (t.data.toList.drop p=[]):=hid (List.eq_nil_of_length_eq_zero (by rw [List.length_drop,show t.data.toList.length=t.size from rfl];omega));have hdep:depth n≤1000:=by
     have h1:=congrArg List.length HIN.out.1;rw [List.length_append,show t.data.toList.length=t.size from rfl] at h1;have h2:=HIN.out.2;have h3:=HTS.out;omega
    have HRI:=hid (Jb9 n r W3 (HND.out.at_ fun b hb=>hb.2) hdep);unfold ndV rawCells at HRI;have HE2:=hid (show refD s=if refB n=true then some n else none by rw [HE.out,←HTL.out,Jk3,HRR.out,HNIL.out]);clear hpe hp hpI hdep;go_upto_region 4 with fail
    rw [←HW3.out];go_wp2_with fail
    refine HRI.out.mono ?_;rintro e w4 ⟨rfl,hb4⟩;have hk14:=(hb4.block _ (lt_of_some HK13.out)).trans HK13.out;have hk34:=(hb4.block _ (lt_of_some HK3.out)).trans HK3.out;have HK14:=hid hk14;have HB4:=hid (HB3.out.trans (hb4.mono HB3.out.size));have hnd4:NdIn w4 (fun b=>W1.heap.size≤b∧b<w4.heap.size) n r:=HND.out.keep fun b hb=>⟨hb4.block b hb.2,hb.1,Nat.lt_of_lt_of_le hb.2 hb4.size⟩
    have HND4:=hid hnd4;clear k0 k1 k2 k3 k4 k5 k6 k7;have k0:=Jaa hk34 0;have k1:=Jaa hk34 1;have k2:=Jaa hk34 2;have k3:=Jaa hk34 3;have k4:=Jaa hk34 4;have k5:=Jaa hk34 5;have k6:=Jaa hk34 6;have c0:=Jaa HK14.out 0;have z0:=Jab HK14.out 0;have c1:=Jaa HK14.out 1;have z1:=Jab HK14.out 1;have c2:=Jaa HK14.out 2;have z2:=Jab HK14.out 2;have c3:=Jaa HK14.out 3;have z3:=Jab HK14.out 3;have c4:=Jaa HK14.out 4;have z4:=Jab HK14.out 4;have c5:=Jaa HK14.out 5;have z5:=Jab HK14.out 5;have c6:=Jaa HK14.out 6;have z6:=Jab HK14.out 6;clear hk14 hk34 hb4 hnd4;rcases hrb:refB n with _ |_
    ·have HEN:=hid (show refD s=none by rw [HE2.out,hrb];rfl)
     clear hrb;go_wp2_with fail
     obtain⟨W9,hW9⟩:=words.nm (set7 w4 g (.int .i64 0) (.bool false) (.slice none 0 0) (.slice none 0 0) (.int .i64 0) (.slice none 0 0) (.string ⟨#[]⟩));have hk9:W9.heap[g]?=some (.cells #[.int .i64 0,.bool false,.slice none 0 0,.slice none 0 0,.int .i64 0,.slice none 0 0,.string ⟨#[]⟩] 46 (0,0)):=by rw [hW9];exact over7 HK14.out
     have HF:=hid (HNO.out w4 W9 HEN.out HB4.out hW9);have p0:=Jaa hk9 0;have p1:=Jaa hk9 1;have p2:=Jaa hk9 2;have p3:=Jaa hk9 3;have p4:=Jaa hk9 4;have p5:=Jaa hk9 5;have p6:=Jaa hk9 6;unfold set7 at hW9;rw [←hW9];exact bodyPost_ret (v:= .tuple #[ndV nd0 raw0,.bool false]) (by simp [results,results11,go_sem,ndV,rawCells,nd0,raw0,Nd.K,Nd.O,Nd.N,Nd.I,Nd.S,Nd.E,Nd.T,p0,p1,p2,p3,p4,p5,p6]) rfl HF.out
    ·have HEY:=hid (show refD s=some n by rw [HE2.out,hrb];rfl)
     clear hrb;go_wp2_with fail
     obtain⟨W9,hW9⟩:=words.nm (set7 w4 g (.int .i64 n.K) (.bool n.O) (.slice r.An n.N.length r.cn) (.slice r.Ai n.I.length r.ci) (.int .i64 n.S) (.slice r.Ae n.E.length r.ce) (.string n.T));have hk9:W9.heap[g]?=some (.cells #[.int .i64 n.K,.bool n.O,.slice r.An n.N.length r.cn,.slice r.Ai n.I.length r.ci,.int .i64 n.S,.slice r.Ae n.E.length r.ce,.string n.T] 46 (0,0)):=by rw [hW9];exact over7 HK14.out
     have HF:Hid (RefDec s w (.returned (.tuple #[ndV n r,.bool true])) W9):=hid ⟨.inl ⟨n,r,HEY.out,rfl,HND4.out.keep fun b hb=>by
       have h1:=HB1.out.size;have h2:=lt_of_some HK1.out;exact⟨by rw [hW9];exact Jn9 (by omega) _ _ _ _ _ _ _,by have:=hb.1;omega,by rw [hW9];exact Nat.lt_of_lt_of_le hb.2 (Jr2 ..)⟩⟩,by rw [hW9];exact Below.set7 HB4.out (by have:=HG.out;omega) _ _ _ _ _ _ _⟩
     have p0:=Jaa hk9 0;have p1:=Jaa hk9 1;have p2:=Jaa hk9 2;have p3:=Jaa hk9 3;have p4:=Jaa hk9 4;have p5:=Jaa hk9 5;have p6:=Jaa hk9 6;unfold set7 at hW9;rw [←hW9];exact bodyPost_ret (v:= .tuple #[ndV n r,.bool true]) (by simp [results,results11,go_sem,ndV,rawCells,p0,p1,p2,p3,p4,p5,p6]) rfl HF.out

theorem Jp7 (s:ByteArray):Lib.hasPrefix s.data.toList magic.data.toList=true↔¬(s.size<7∨s.extract 0 7≠magic):=by
 have hl:s.data.toList.length=s.size:=rfl;have hm7:magic.data.toList.length=7:=rfl;have hx:=Jcp s 7;constructor
 ·intro h
  have hp:=List.isPrefixOf_iff_prefix.1 h;have h7:=hp.length_le;rw [hm7,hl] at h7;have ht:s.data.toList.take 7=magic.data.toList:=by
   have:=List.prefix_iff_eq_take.1 hp;rw [hm7] at this;exact this.symm
  intro hc;rcases hc with hc |hc
  ·omega
  ·exact hc (ByteArray.ext (Array.ext' (by rw [hx,ht])))
 ·intro h
  have he:s.extract 0 7=magic:=Classical.byContradiction fun hc=>h (.inr hc);refine List.isPrefixOf_iff_prefix.2 (List.prefix_iff_eq_take.2 ?_);rw [hm7,←hx,he]
theorem Jvg (s:ByteArray):(Lib.trimPrefix s.data.toList magic.data.toList).length≤s.size:=by
 have hl:s.data.toList.length=s.size:=rfl;unfold Lib.trimPrefix;split
 ·rw [List.length_drop,hl];omega
 ·rw [hl];exact Nat.le_refl _
theorem decB_refD {s:ByteArray} (hs:s.size≤3000):decB s=refD s:=by
 have hl:s.data.toList.length=s.size:=rfl;unfold decB refD;by_cases h:Lib.hasPrefix s.data.toList magic.data.toList=true
 ·rw [if_pos ⟨h,by omega⟩,if_neg ((Jp7 s).1 h)]
  have ht:Lib.trimPrefix s.data.toList magic.data.toList=s.data.toList.drop 7:=by
   unfold Lib.trimPrefix;rw [if_pos h];rfl
  rw [ht];exact Jsp (by rw [List.length_drop,hl];omega)
 ·rw [if_neg (fun hc=>h hc.1),if_pos (Classical.byContradiction fun hc=>h ((Jp7 s).2 hc))]
theorem Jro {s:ByteArray} {n:Nd} (hs:s.size≤3000) (h:decB s=some n):imgB n=s∧treeB n=true∧allB n=true∧count n≤4096∧(nb n).length≤4194297∧depth n≤1000:=by
 have hl:s.data.toList.length=s.size:=rfl;unfold decB at h;split at h
 ·rename_i hp
  obtain⟨h1,h2⟩:=Jmf h;have ht:Lib.trimPrefix s.data.toList magic.data.toList=s.data.toList.drop 7:=by
   unfold Lib.trimPrefix;rw [if_pos hp.1];rfl
  have hz:=congrArg List.length h1;rw [ht,List.length_drop,hl] at hz;have ha:=(Jbt h2).2.1;have hc:=Jef n ha;refine⟨?_,h2,ha,by omega,by omega,?_⟩
  ·refine ByteArray.ext (Array.ext' ?_)
   rw [Jg4,←h1,ht];have hpre:=List.isPrefixOf_iff_prefix.1 hp.1;have htk:=List.prefix_iff_eq_take.1 hpre;rw [show magic.data.toList.length=7 from rfl] at htk;rw [htk];exact List.take_append_drop 7 _
  ·have:=(Jbt h2).2.2
   omega
 ·cases h
end Go.Proofs.YtekekhgjobahaaaGreatDoor.ima
