import Derived.Test.YtekekhgjobahaaaGreatDoorE4
set_option maxHeartbeats 12800000
set_option maxRecDepth 100000
open Go.Lib (hid)
open Go.Proofs.Tryz
namespace Go.Proofs.YtekekhgjobahaaaGreatDoor.ima
open Go.RowKit words ext name tre

def numB (s:ByteArray) (p z:Nat):Int:=if p+z≤s.size then (num ((s.data.toList.drop p).take z):Int) else -1
theorem Jay {s:ByteArray} {p z:Nat} (h:p+z≤s.size):numB s p z=(num ((s.data.toList.drop p).take z):Int):=if_pos h
theorem Jcx {s:ByteArray} {p z:Nat} (h:¬p+z≤s.size):numB s p z= -1:=if_neg h
theorem Jei (s:ByteArray) (p z:Nat) (h:p+z≤s.size):(s.extract p (p+z)).data.toList=(s.data.toList.drop p).take z∧(s.extract p (p+z)).size=z:=by
 have hsz:s.data.toList.length=s.size:=rfl;have h1:(s.extract p (p+z)).data.toList=(s.data.toList.drop p).take z:=by
  simp [List.extract_eq_take_drop]
 refine⟨h1,?_⟩;show (s.extract p (p+z)).data.size=z;rw [←Array.length_toList,h1,List.length_take,List.length_drop,hsz];omega
theorem Jak (s:ByteArray) (p z:Nat) (w:World) (hz:z≤4) (hp:p≤1000000):
  Calls prog 56 #[.string s,.int .i64 (p:Int),.int .i64 (z:Int)] w fun e w'=>e= .returned (.int .i64 (numB s p z))∧w'=w:=by
 have r0: -9223372036854775808≤(p:Int)+(z:Int):=by omega
 have r1:(p:Int)+(z:Int)<9223372036854775808:=by omega
 have p0:¬(p:Int)<0:=by omega
 by_cases h:p+z≤s.size
 ·have g:¬(s.size:Int)<(p:Int)+(z:Int):=by omega
  obtain⟨hc1,hc2⟩:=Jei s p z h;obtain⟨t,ht⟩:=words.nm (s.extract p (p+z));rw [←ht] at hc1 hc2;have HG:=hid (Jf3 t w (by omega));rw [hc1] at HG;have hsl:∀wx:World,(Instr.slice 9 (.string s) (some (.int .i64 (p:Int))) (some (.int .i64 ((p:Int)+(z:Int)))) none).run prog wx= .ok (.string t) wx:=fun wx=>by
   rw [run_slice_string_if (P:=prog) (w:=wx) 9 s .i64 .i64 p ((p:Int)+(z:Int)) underlying9,if_pos ⟨by omega,by omega⟩,if_pos ⟨by omega,by omega⟩,ht,show ((p:Int)+(z:Int)).toNat=p+z by omega];rfl
  have HN:=hid (Jay h);clear hc1 hc2 ht h;go_enter func56,ntmps56
  go_wp2_with fail
  refine HG.out.mono ?_;rintro e w2 ⟨rfl,rfl⟩;go_wp2_with fail
  go_ret
  exact⟨by rw [HN.out];rfl,rfl⟩
 ·have g:(s.size:Int)<(p:Int)+(z:Int):=by omega
  have HN:=hid (Jcx h);clear h;go_enter func56,ntmps56
  go_wp2_with fail
  go_ret
  exact⟨by rw [HN.out];rfl,rfl⟩

def gotN:Value:= .agg #[.int .i64 0,.bool false,.slice none 0 0,.slice none 0 0,.int .i64 0,.slice none 0 0,.string ⟨#[]⟩,.int .i64 (-1)]
def got0:Array Value:=#[.int .i64 0,.bool false,.slice none 0 0,.slice none 0 0,.int .i64 0,.slice none 0 0,.string ⟨#[]⟩,.int .i64 0]
def gotM:Array Value:=#[.int .i64 0,.bool false,.slice none 0 0,.slice none 0 0,.int .i64 0,.slice none 0 0,.string ⟨#[]⟩,.int .i64 (-1)]
structure GotM (w:World) (g:Nat) (W:World):Prop where
 ans:W.heap[g]?=some (.cells got0 96 (0,0))
 non:W.heap[g+1]?=some (.cells gotM 96 (0,0))
 below:Below w.heap.size w W
 size:g=w.heap.size
theorem GotM.start (w:World):GotM w w.heap.size ((w.alloc (.cells got0 96)).alloc (.cells gotM 96)):=by
 have h1:=heap_alloc_new w (.cells got0 96);have hs:(w.alloc (.cells got0 96)).heap.size=w.heap.size+1:=by simp
 have hb:=(Below.refl (w.alloc (.cells got0 96)).heap.size (w.alloc (.cells got0 96))).alloc (Nat.le_refl _) (.cells gotM 96);refine⟨(hb.block _ (lt_of_some h1)).trans h1,?_,((Below.refl _ _).alloc (Nat.le_refl _) _).alloc (by simp) _,rfl⟩;have h2:=heap_alloc_new (w.alloc (.cells got0 96)) (.cells gotM 96);rw [hs] at h2;exact h2
theorem GotM.later {w W W':World} {g:Nat} (h:GotM w g W) (hb:Below W.heap.size W W'):GotM w g W':=
 ⟨(hb.block _ (lt_of_some h.ans)).trans h.ans,(hb.block _ (lt_of_some h.non)).trans h.non,h.below.trans (hb.mono h.below.size),h.size⟩
theorem over8 {w:World} {g:Nat} {T:TypeId} {c0 c1 c2 c3 c4 c5 c6 c7 u0 u1 u2 u3 u4 u5 u6 u7:Value} (h:w.heap[g]?=some (.cells #[c0,c1,c2,c3,c4,c5,c6,c7] T (0,0))):
  ((((((((w.setCell ⟨g,0,none⟩ u0).setCell ⟨g,1,none⟩ u1).setCell ⟨g,2,none⟩ u2).setCell ⟨g,3,none⟩ u3).setCell ⟨g,4,none⟩ u4).setCell ⟨g,5,none⟩ u5).setCell ⟨g,6,none⟩ u6).setCell ⟨g,7,none⟩ u7).heap[g]?=some (.cells #[u0,u1,u2,u3,u4,u5,u6,u7] T (0,0)):=by
 simp [World.setCell,Array.getElem?_modify,h]
theorem GotM.nons {w W:World} {g:Nat} (h:GotM w g W):W.cell? ⟨g+1,0,none⟩=some (.int .i64 0)∧W.cell? ⟨g+1,1,none⟩=some (.bool false)∧W.cell? ⟨g+1,2,none⟩=some (.slice none 0 0)∧W.cell? ⟨g+1,3,none⟩=some (.slice none 0 0)∧W.cell? ⟨g+1,4,none⟩=some (.int .i64 0)∧W.cell? ⟨g+1,5,none⟩=some (.slice none 0 0)∧W.cell? ⟨g+1,6,none⟩=some (.string ⟨#[]⟩)∧W.cell? ⟨g+1,7,none⟩=some (.int .i64 (-1)):=
 ⟨Jaa h.non 0,Jaa h.non 1,Jaa h.non 2,Jaa h.non 3,Jaa h.non 4,Jaa h.non 5,Jaa h.non 6,Jaa h.non 7⟩
theorem GotM.anss {w W:World} {g:Nat} (h:GotM w g W):W.cell? ⟨g,0,none⟩=some (.int .i64 0)∧W.cell? ⟨g,1,none⟩=some (.bool false)∧W.cell? ⟨g,2,none⟩=some (.slice none 0 0)∧W.cell? ⟨g,3,none⟩=some (.slice none 0 0)∧W.cell? ⟨g,4,none⟩=some (.int .i64 0)∧W.cell? ⟨g,5,none⟩=some (.slice none 0 0)∧W.cell? ⟨g,6,none⟩=some (.string ⟨#[]⟩)∧W.cell? ⟨g,7,none⟩=some (.int .i64 0):=
 ⟨Jaa h.ans 0,Jaa h.ans 1,Jaa h.ans 2,Jaa h.ans 3,Jaa h.ans 4,Jaa h.ans 5,Jaa h.ans 6,Jaa h.ans 7⟩
theorem GotM.free {w W:World} {g:Nat} (h:GotM w g W) (i:Nat):W.frozen? ⟨g,i,none⟩=false:=Jab h.ans i
def set8 (w:World) (g:Nat) (u0 u1 u2 u3 u4 u5 u6 u7:Value):World:=((((((((w.setCell ⟨g,0,none⟩ u0).setCell ⟨g,1,none⟩ u1).setCell ⟨g,2,none⟩ u2).setCell ⟨g,3,none⟩ u3).setCell ⟨g,4,none⟩ u4).setCell ⟨g,5,none⟩ u5).setCell ⟨g,6,none⟩ u6).setCell ⟨g,7,none⟩ u7)
theorem Below.set8 {S g:Nat} {a w:World} (h:Below S a w) (hg:S≤g) (u0 u1 u2 u3 u4 u5 u6 u7:Value):Below S a (set8 w g u0 u1 u2 u3 u4 u5 u6 u7):=
 (((((((h.setCell (p:=⟨g,0,none⟩) hg _).setCell (p:=⟨g,1,none⟩) hg _).setCell (p:=⟨g,2,none⟩) hg _).setCell (p:=⟨g,3,none⟩) hg _).setCell (p:=⟨g,4,none⟩) hg _).setCell (p:=⟨g,5,none⟩) hg _).setCell (p:=⟨g,6,none⟩) hg _).setCell (p:=⟨g,7,none⟩) hg _
theorem GotM.none {w W:World} {g:Nat} (h:GotM w g W):∃Wd,Wd=ima.set8 W g (.int .i64 0) (.bool false) (.slice none 0 0) (.slice none 0 0) (.int .i64 0) (.slice none 0 0) (.string ⟨#[]⟩) (.int .i64 (-1))∧Below w.heap.size w Wd∧Wd.heap[g]?=some (.cells gotM 96 (0,0)):=
 ⟨_,rfl,Below.set8 h.below (by rw [h.size];exact Nat.le_refl _) _ _ _ _ _ _ _ _,over8 h.ans⟩
theorem Jr3 (s:ByteArray) (d:Int) (w:World) (h:15<d∨s.size=0):
  Calls prog 25 #[.string s,.int .i64 d] w fun e w'=>e= .returned gotN∧Below w.heap.size w w':=by
 obtain⟨W2,hW2⟩:=words.nm ((w.alloc (.cells got0 96)).alloc (.cells gotM 96));have hG:GotM w w.heap.size W2:=by rw [hW2];exact GotM.start w
 have HG:=hid hG;obtain⟨g,hg⟩:=words.nm (w.heap.size);unfold got0 gotM at hW2;have HW2:=hid hW2;clear hG hW2;go_enter func25,ntmps25
 go_upto_region 2 with fail
 rw [←HW2.out];rw [←hg] at HG ⊢;clear HW2 hg;obtain⟨n0,n1,n2,n3,n4,n5,n6,n7⟩:=HG.out.nons;obtain⟨a0,a1,a2,a3,a4,a5,a6,a7⟩:=HG.out.anss;have z0:=HG.out.free 0;have z1:=HG.out.free 1;have z2:=HG.out.free 2;have z3:=HG.out.free 3;have z4:=HG.out.free 4;have z5:=HG.out.free 5;have z6:=HG.out.free 6;have z7:=HG.out.free 7;by_cases h1:15<d
 ·clear h
  go_wp2_with fail
  obtain⟨Wd,hWd,hbd,hkd⟩:=HG.out.none;have p0:=Jaa hkd 0;have p1:=Jaa hkd 1;have p2:=Jaa hkd 2;have p3:=Jaa hkd 3;have p4:=Jaa hkd 4;have p5:=Jaa hkd 5;have p6:=Jaa hkd 6;have p7:=Jaa hkd 7;unfold set8 at hWd;unfold gotM at p0 p1 p2 p3 p4 p5 p6 p7;rw [←hWd];exact bodyPost_ret (v:=gotN) (by simp [results,results25,go_sem,gotN,p0,p1,p2,p3,p4,p5,p6,p7]) rfl ⟨rfl,hbd⟩
 ·have h0:s.size=0:=by omega
  have h2:(s.size:Int)<1:=by omega
  clear h h0;go_wp2_with fail
  obtain⟨Wd,hWd,hbd,hkd⟩:=HG.out.none;have p0:=Jaa hkd 0;have p1:=Jaa hkd 1;have p2:=Jaa hkd 2;have p3:=Jaa hkd 3;have p4:=Jaa hkd 4;have p5:=Jaa hkd 5;have p6:=Jaa hkd 6;have p7:=Jaa hkd 7;unfold set8 at hWd;unfold gotM at p0 p1 p2 p3 p4 p5 p6 p7;rw [←hWd];exact bodyPost_ret (v:=gotN) (by simp [results,results25,go_sem,gotN,p0,p1,p2,p3,p4,p5,p6,p7]) rfl ⟨rfl,hbd⟩
abbrev Fresh (w w':World):Nat→Prop:=fun b=>w.heap.size≤b∧b<w'.heap.size
theorem Jst (w:World) (P:Nat→Prop) (K:Int) (t:ByteArray) (h:Fit (.mk K false [] [] 0 [] t) raw0):NdIn w P (.mk K false [] [] 0 [] t) raw0:=
 .mk (fun _=>raw0) h (fun _ _ hx=>(Jba hx).elim) (fun _ _ hx=>(Jba hx).elim) (fun _ _ hx=>(Jba hx).elim) (fun _ _ hx=>(Jba hx).elim)
def gotV (n:Nd) (r:Raw) (k:Int):Value:= .agg #[.int .i64 n.K,.bool n.O,.slice r.An n.N.length r.cn,.slice r.Ai n.I.length r.ci,.int .i64 n.S,.slice r.Ae n.E.length r.ce,.string n.T,.int .i64 k]
theorem GotM.put {w W:World} {g:Nat} (h:GotM w g W) (u0 u1 u2 u3 u4 u5 u6 u7:Value):∃Wd,Wd=ima.set8 W g u0 u1 u2 u3 u4 u5 u6 u7∧Below w.heap.size w Wd∧Wd.heap[g]?=some (.cells #[u0,u1,u2,u3,u4,u5,u6,u7] 96 (0,0)):=
 ⟨_,rfl,Below.set8 h.below (by rw [h.size];exact Nat.le_refl _) _ _ _ _ _ _ _ _,over8 h.ans⟩
theorem Jq8 (s:ByteArray) (d:Int) (w:World) (h1:¬15<d) (h2:0<s.size) (hkk:s[0].toNat=4):
  Calls prog 25 #[.string s,.int .i64 d] w fun e w'=>(∃r,e= .returned (gotV whiteN r 1)∧NdIn w' (Fresh w w') whiteN r)∧Below w.heap.size w w':=by
 obtain⟨W2,hW2⟩:=words.nm ((w.alloc (.cells got0 96)).alloc (.cells gotM 96));have hG:GotM w w.heap.size W2:=by rw [hW2];exact GotM.start w
 have HG:=hid hG;obtain⟨g,hg⟩:=words.nm (w.heap.size);have hs2:W2.heap.size=w.heap.size+2:=by rw [hW2];simp
 unfold got0 gotM at hW2;have HW2:=hid hW2;clear hG hW2;go_enter func25,ntmps25
 go_upto_region 2 with fail
 rw [←HW2.out];rw [←hg] at HG hs2 ⊢;clear HW2 hg;have l1:¬(s.size:Int)<1:=by omega
 have l2:(0:Int)<(s.size:Int):=by omega
 have hu:(s[0].toNat:Int)<256:=by have:=s[0].toNat_lt;omega
 go_upto_region 6 with fail
 obtain⟨W3,hW3⟩:=words.nm (W2.alloc (.cells #[.int .i64 4,.bool false,.slice none 0 0,.slice none 0 0,.int .i64 0,.slice none 0 0,.string ⟨#[]⟩] 46));rw [←hW3];have hb3:Below W2.heap.size W2 W3:=words.b1 hW3;have hk3:W3.heap[W2.heap.size]?=some (.cells #[.int .i64 4,.bool false,.slice none 0 0,.slice none 0 0,.int .i64 0,.slice none 0 0,.string ⟨#[]⟩] 46 (0,0)):=by rw [hW3];exact heap_alloc_new W2 _
 rw [hs2] at hk3;replace HG:=hid (HG.out.later hb3);have HK:=hid hk3;clear hW3 hb3 hk3 hs2 hu;clear hkk;have b0:=Jaa HK.out 0;have b1:=Jaa HK.out 1;have b2:=Jaa HK.out 2;have b3:=Jaa HK.out 3;have b4:=Jaa HK.out 4;have b5:=Jaa HK.out 5;have b6:=Jaa HK.out 6;obtain⟨n0,n1,n2,n3,n4,n5,n6,n7⟩:=HG.out.nons;obtain⟨a0,a1,a2,a3,a4,a5,a6,a7⟩:=HG.out.anss;have z0:=HG.out.free 0;have z1:=HG.out.free 1;have z2:=HG.out.free 2;have z3:=HG.out.free 3;have z4:=HG.out.free 4;have z5:=HG.out.free 5;have z6:=HG.out.free 6;have z7:=HG.out.free 7;go_wp2_with fail
 obtain⟨Wd,hWd,hbd,hkd⟩:=HG.out.put (.int .i64 4) (.bool false) (.slice none 0 0) (.slice none 0 0) (.int .i64 0) (.slice none 0 0) (.string ⟨#[]⟩) (.int .i64 1);have p0:=Jaa hkd 0;have p1:=Jaa hkd 1;have p2:=Jaa hkd 2;have p3:=Jaa hkd 3;have p4:=Jaa hkd 4;have p5:=Jaa hkd 5;have p6:=Jaa hkd 6;have p7:=Jaa hkd 7;unfold set8 at hWd;rw [←hWd];exact bodyPost_ret (v:=gotV whiteN raw0 1) (by simp [results,results25,go_sem,gotV,whiteN,raw0,p0,p1,p2,p3,p4,p5,p6,p7,Nd.K,Nd.O,Nd.N,Nd.I,Nd.S,Nd.E,Nd.T]) rfl ⟨⟨raw0,rfl,Jst _ _ _ _ (fit0 4 ⟨#[]⟩ (by decide) (by decide) (by decide))⟩,hbd⟩
theorem Jry (s:ByteArray) (d:Int) (w:World) (h1:¬15<d) (h2:0<s.size) (hkk:s[0].toNat≠1∧s[0].toNat≠2∧s[0].toNat≠3∧s[0].toNat≠4):
  Calls prog 25 #[.string s,.int .i64 d] w fun e w'=>e= .returned gotN∧Below w.heap.size w w':=by
 obtain⟨W2,hW2⟩:=words.nm ((w.alloc (.cells got0 96)).alloc (.cells gotM 96));have hG:GotM w w.heap.size W2:=by rw [hW2];exact GotM.start w
 have HG:=hid hG;obtain⟨g,hg⟩:=words.nm (w.heap.size);have hs2:W2.heap.size=w.heap.size+2:=by rw [hW2];simp
 unfold got0 gotM at hW2;have HW2:=hid hW2;clear hG hW2;go_enter func25,ntmps25
 go_upto_region 2 with fail
 rw [←HW2.out];rw [←hg] at HG hs2 ⊢;clear HW2 hg;have l1:¬(s.size:Int)<1:=by omega
 have l2:(0:Int)<(s.size:Int):=by omega
 have hu:(s[0].toNat:Int)<256:=by have:=s[0].toNat_lt;omega
 obtain⟨k,hk⟩:∃k:Nat,k=s[0].toNat:=⟨_,rfl⟩
 go_upto_region 6 with fail
 rw [←hk];rw [←hk] at hu hkk;obtain⟨W3,hW3⟩:=words.nm (W2.alloc (.cells #[.int .i64 (k:Int),.bool false,.slice none 0 0,.slice none 0 0,.int .i64 0,.slice none 0 0,.string ⟨#[]⟩] 46));rw [←hW3];have hb3:Below W2.heap.size W2 W3:=words.b1 hW3;have hk3:W3.heap[W2.heap.size]?=some (.cells #[.int .i64 (k:Int),.bool false,.slice none 0 0,.slice none 0 0,.int .i64 0,.slice none 0 0,.string ⟨#[]⟩] 46 (0,0)):=by rw [hW3];exact heap_alloc_new W2 _
 rw [hs2] at hk3;replace HG:=hid (HG.out.later hb3);have HK:=hid hk3;clear hW3 hb3 hk3 hs2 hu;have q1:((k:Int)==1)=false:=by rw [beq_eq_false_iff_ne];omega
 have q2:((k:Int)==2)=false:=by rw [beq_eq_false_iff_ne];omega
 have q3:((k:Int)==3)=false:=by rw [beq_eq_false_iff_ne];omega
 have q4:((k:Int) !=4)=true:=by rw [bne_iff_ne];omega
 clear hkk hk;have b0:=Jaa HK.out 0;have b1:=Jaa HK.out 1;have b2:=Jaa HK.out 2;have b3:=Jaa HK.out 3;have b4:=Jaa HK.out 4;have b5:=Jaa HK.out 5;have b6:=Jaa HK.out 6;obtain⟨n0,n1,n2,n3,n4,n5,n6,n7⟩:=HG.out.nons;obtain⟨a0,a1,a2,a3,a4,a5,a6,a7⟩:=HG.out.anss;have z0:=HG.out.free 0;have z1:=HG.out.free 1;have z2:=HG.out.free 2;have z3:=HG.out.free 3;have z4:=HG.out.free 4;have z5:=HG.out.free 5;have z6:=HG.out.free 6;have z7:=HG.out.free 7;go_wp2_with fail
 obtain⟨Wd,hWd,hbd,hkd⟩:=HG.out.none;have p0:=Jaa hkd 0;have p1:=Jaa hkd 1;have p2:=Jaa hkd 2;have p3:=Jaa hkd 3;have p4:=Jaa hkd 4;have p5:=Jaa hkd 5;have p6:=Jaa hkd 6;have p7:=Jaa hkd 7;unfold set8 at hWd;unfold gotM at p0 p1 p2 p3 p4 p5 p6 p7;rw [←hWd];exact bodyPost_ret (v:=gotN) (by simp [results,results25,go_sem,gotN,p0,p1,p2,p3,p4,p5,p6,p7]) rfl ⟨rfl,hbd⟩
theorem Jck (s:ByteArray) (p z:Nat) (hz:z≤2): -1≤numB s p z∧numB s p z<65536:=by
 unfold numB;split
 ·have h:=Je5 z ((s.data.toList.drop p).take z) (by have hl:s.data.toList.length=s.size:=rfl;rw [List.length_take,List.length_drop,hl];omega)
  have h2:256 ^ z≤256 ^ 2:=Nat.pow_le_pow_right (by omega) hz;omega
 ·omega
def linkAt (s:ByteArray) (z:Nat):Nd:= .mk 3 false [] [] 0 [] (s.extract 3 (3+z))
theorem Js7 (s:ByteArray) (d:Int) (w:World) (h1:¬15<d) (h2:0<s.size) (hsm:s.size≤1000000) (hkk:s[0].toNat=3) (q:Int) (hq:numB s 1 2=q):
  Calls prog 25 #[.string s,.int .i64 d] w fun e w'=>((¬(0≤q∧3+q≤(s.size:Int))∧e= .returned gotN)∨(∃z:Nat,q=(z:Int)∧3+z≤s.size∧∃r,e= .returned (gotV (linkAt s z) r (3+q))∧NdIn w' (Fresh w w') (linkAt s z) r))∧Below w.heap.size w w':=by
 obtain⟨W2,hW2⟩:=words.nm ((w.alloc (.cells got0 96)).alloc (.cells gotM 96));have hG:GotM w w.heap.size W2:=by rw [hW2];exact GotM.start w
 have HG:=hid hG;obtain⟨g,hg⟩:=words.nm (w.heap.size);have hs2:W2.heap.size=w.heap.size+2:=by rw [hW2];simp
 unfold got0 gotM at hW2;have HW2:=hid hW2;clear hG hW2;go_enter func25,ntmps25
 go_upto_region 2 with fail
 rw [←HW2.out];rw [←hg] at HG hs2 ⊢;clear HW2 hg;have l1:¬(s.size:Int)<1:=by omega
 have l2:(0:Int)<(s.size:Int):=by omega
 have hu:(s[0].toNat:Int)<256:=by have:=s[0].toNat_lt;omega
 go_upto_region 6 with fail
 obtain⟨W3,hW3⟩:=words.nm (W2.alloc (.cells #[.int .i64 3,.bool false,.slice none 0 0,.slice none 0 0,.int .i64 0,.slice none 0 0,.string ⟨#[]⟩] 46));rw [←hW3];have hb3:Below W2.heap.size W2 W3:=words.b1 hW3;have hk3:W3.heap[W2.heap.size]?=some (.cells #[.int .i64 3,.bool false,.slice none 0 0,.slice none 0 0,.int .i64 0,.slice none 0 0,.string ⟨#[]⟩] 46 (0,0)):=by rw [hW3];exact heap_alloc_new W2 _
 rw [hs2] at hk3;replace HG:=hid (HG.out.later hb3);have HK:=hid hk3;clear hW3 hb3 hk3 hs2 hu;clear hkk;have HN1:=hid (show Calls prog 56 #[.string s,.int .i64 1,.int .i64 2] W3 _ from Jak s 1 2 W3 (by decide) (by decide));rw [hq] at HN1;have hqb: -1≤q∧q<65536:=by rw [←hq];exact Jck s 1 2 (by decide)
 obtain⟨hq0,hq1⟩:=hqb;clear hq;have b0:=Jaa HK.out 0;have b1:=Jaa HK.out 1;have b2:=Jaa HK.out 2;have b3:=Jaa HK.out 3;have b4:=Jaa HK.out 4;have b5:=Jaa HK.out 5;have b6:=Jaa HK.out 6;obtain⟨n0,n1,n2,n3,n4,n5,n6,n7⟩:=HG.out.nons;obtain⟨a0,a1,a2,a3,a4,a5,a6,a7⟩:=HG.out.anss;have z0:=HG.out.free 0;have z1:=HG.out.free 1;have z2:=HG.out.free 2;have z3:=HG.out.free 3;have z4:=HG.out.free 4;have z5:=HG.out.free 5;have z6:=HG.out.free 6;have z7:=HG.out.free 7;go_wp2_with fail
 refine HN1.out.mono ?_;rintro e w4 ⟨rfl,rfl⟩;by_cases hz:q<0
 ·have HE:=hid (show ¬(0≤q∧3+q≤(s.size:Int)) by omega)
  go_wp2_with fail
  obtain⟨Wd,hWd,hbd,hkd⟩:=HG.out.none;have p0:=Jaa hkd 0;have p1:=Jaa hkd 1;have p2:=Jaa hkd 2;have p3:=Jaa hkd 3;have p4:=Jaa hkd 4;have p5:=Jaa hkd 5;have p6:=Jaa hkd 6;have p7:=Jaa hkd 7;unfold set8 at hWd;unfold gotM at p0 p1 p2 p3 p4 p5 p6 p7;rw [←hWd];exact bodyPost_ret (v:=gotN) (by simp [results,results25,go_sem,gotN,p0,p1,p2,p3,p4,p5,p6,p7]) rfl ⟨.inl ⟨HE.out,rfl⟩,hbd⟩
 ·have r0: -9223372036854775808≤3+q:=by omega
  have r1:3+q<9223372036854775808:=by omega
  by_cases hz2:(s.size:Int)<3+q
  ·have HE:=hid (show ¬(0≤q∧3+q≤(s.size:Int)) by omega)
   go_wp2_with fail
   obtain⟨Wd,hWd,hbd,hkd⟩:=HG.out.none;have p0:=Jaa hkd 0;have p1:=Jaa hkd 1;have p2:=Jaa hkd 2;have p3:=Jaa hkd 3;have p4:=Jaa hkd 4;have p5:=Jaa hkd 5;have p6:=Jaa hkd 6;have p7:=Jaa hkd 7;unfold set8 at hWd;unfold gotM at p0 p1 p2 p3 p4 p5 p6 p7;rw [←hWd];exact bodyPost_ret (v:=gotN) (by simp [results,results25,go_sem,gotN,p0,p1,p2,p3,p4,p5,p6,p7]) rfl ⟨.inl ⟨HE.out,rfl⟩,hbd⟩
  ·obtain⟨z,hzq⟩:∃z:Nat,q=(z:Int):=⟨q.toNat,by omega⟩
   have HQ:=hid hzq;obtain⟨t,ht⟩:=words.nm (s.extract 3 (3+z));have hsl:∀wx:World,(Instr.slice 9 (.string s) (some (.int .i64 3)) (some (.int .i64 (3+q))) none).run prog wx= .ok (.string t) wx:=fun wx=>by
    rw [run_slice_string_if (P:=prog) (w:=wx) 9 s .i64 .i64 3 (3+q) underlying9,if_pos ⟨by omega,by omega⟩,if_pos ⟨by omega,by omega⟩,ht,show (3+q).toNat=3+z by omega];rfl
   have HT:=hid ht;have hts:t.size≤1000000:=by rw [ht,ByteArray.size_extract];omega
   have f6:=Jab HK.out 6;obtain⟨W5,hW5⟩:=words.nm (w4.setCell ⟨g+2,6,none⟩ (.string t));have hk5:W5.heap[g+2]?=some (.cells #[.int .i64 3,.bool false,.slice none 0 0,.slice none 0 0,.int .i64 0,.slice none 0 0,.string t] 46 (0,0)):=by
    rw [hW5,heap_setCell_same w4 (g+2) 6 _ _ (.string t) HK.out];rfl
   have HG5:=hid (show GotM w g W5 by
     have hsz:=HG.out.size;exact⟨by rw [hW5,heap_setCell_other _ _ _ _ (by show g≠g+2;omega)];exact HG.out.ans,by rw [hW5,heap_setCell_other _ _ _ _ (by show g+1≠g+2;omega)];exact HG.out.non,by rw [hW5];exact HG.out.below.setCell (p:=⟨g+2,6,none⟩) (by show w.heap.size≤g+2;omega) _,hsz⟩)
   have HK5:=hid hk5;have HW5:=hid hW5;have HZ:=hid (show 3+z≤s.size by omega);have HF2:=hid (show t.size≤140737488355328 by omega);clear hW5 hk5 ht hts hzq HG HK a0 a1 a2 a3 a4 a5 a6 a7 n0 n1 n2 n3 n4 n5 n6 n7 z0 z1 z2 z3 z4 z5 z6 z7 HN1;go_upto_region 44 with fail
   rw [←HW5.out];clear HW5 b0 b1 b2 b3 b4 b5 b6 f6 hsl;have b0:=Jaa HK5.out 0;have b1:=Jaa HK5.out 1;have b2:=Jaa HK5.out 2;have b3:=Jaa HK5.out 3;have b4:=Jaa HK5.out 4;have b5:=Jaa HK5.out 5;have b6:=Jaa HK5.out 6;obtain⟨n0,n1,n2,n3,n4,n5,n6,n7⟩:=HG5.out.nons;obtain⟨a0,a1,a2,a3,a4,a5,a6,a7⟩:=HG5.out.anss;have z0:=HG5.out.free 0;have z1:=HG5.out.free 1;have z2:=HG5.out.free 2;have z3:=HG5.out.free 3;have z4:=HG5.out.free 4;have z5:=HG5.out.free 5;have z6:=HG5.out.free 6;have z7:=HG5.out.free 7;go_wp2_with fail
   obtain⟨Wd,hWd,hbd,hkd⟩:=HG5.out.put (.int .i64 3) (.bool false) (.slice none 0 0) (.slice none 0 0) (.int .i64 0) (.slice none 0 0) (.string t) (.int .i64 (3+q));have p0:=Jaa hkd 0;have p1:=Jaa hkd 1;have p2:=Jaa hkd 2;have p3:=Jaa hkd 3;have p4:=Jaa hkd 4;have p5:=Jaa hkd 5;have p6:=Jaa hkd 6;have p7:=Jaa hkd 7;unfold set8 at hWd;rw [←hWd];exact bodyPost_ret (v:=gotV (linkAt s z) raw0 (3+q)) (by simp [results,results25,go_sem,gotV,linkAt,←HT.out,raw0,p0,p1,p2,p3,p4,p5,p6,p7,Nd.K,Nd.O,Nd.N,Nd.I,Nd.S,Nd.E,Nd.T]) rfl ⟨.inr ⟨z,HQ.out,HZ.out,raw0,rfl,by unfold linkAt;rw [←HT.out];exact Jst _ _ 3 t (fit0 3 t (by decide) (by decide) HF2.out)⟩,hbd⟩

theorem infoExt2:(Tryz.prog.info? 131).map (fun i=>(i.zero,i.size,i.bytes))=some (some (.agg #[.int .i64 0,.string ⟨#[]⟩]),2,24):=by kernel_rfl
structure FileIn (w:World) (g:Nat) (q:Int) (E:List Ex) (v:Value) (W:World):Prop where
 m:GotM w g W
 box:W.heap[g+2]?=some (.cells #[.int .i64 1,.bool false,.slice none 0 0,.slice none 0 0,.int .i64 q,v,.string ⟨#[]⟩] 46 (0,0))
 own:W.ownsRow (g+3) 131 2 v E.length (exCells E)
theorem FileIn.alloc {w W:World} {g:Nat} {q:Int} {E:List Ex} {v:Value} (h:FileIn w g q E v W) (o:Obj):FileIn w g q E v (W.alloc o):=by
 have hb:Below W.heap.size W (W.alloc o):=(Below.refl _ _).alloc (Nat.le_refl _) o;exact⟨h.m.later hb,(hb.block _ (lt_of_some h.box)).trans h.box,h.own.alloc o⟩
theorem FileIn.drew {w W:World} {g:Nat} {q:Int} {E:List Ex} {v:Value} (h:FileIn w g q E v W):FileIn w g q E v W.drew:=
 ⟨h.m.later (Below.refl _ _).drew,h.box,h.own⟩
theorem FileIn.ne {w W:World} {g:Nat} {q:Int} {E:List Ex} {v:Value} (h:FileIn w g q E v W):∀b,b<g+3→v.ownBlock≠some b:=fun b hb e=>by
 have:=(h.own.lt b e).1;omega
theorem FileIn.stay {w W W':World} {g:Nat} {q:Int} {E:List Ex} {v:Value} (h:FileIn w g q E v W) (hg:W.grownBy W' v.ownBlock):W'.heap[g+2]?=some (.cells #[.int .i64 1,.bool false,.slice none 0 0,.slice none 0 0,.int .i64 q,v,.string ⟨#[]⟩] 46 (0,0)):=
 (hg.block _ (lt_of_some h.box) (h.ne _ (by omega)).symm).trans h.box
theorem FileIn.put {w W W':World} {g:Nat} {q:Int} {E:List Ex} {v v':Value} {x:Ex} (h:FileIn w g q E v W) (hg:W.grownBy W' v.ownBlock) (ho:W'.ownsRow (g+3) 131 2 v' (E.length+1) (exCells E++[.int .i64 x.O,.string x.D])):
  FileIn w g q (E++[x]) v' (W'.setCell ⟨g+2,5,none⟩ v'):=by
 have hgs:=h.m.size;have hans:W'.heap[g]?=some (.cells got0 96 (0,0)):=(hg.block _ (lt_of_some h.m.ans) (h.ne _ (by omega)).symm).trans h.m.ans;have hnon:W'.heap[g+1]?=some (.cells gotM 96 (0,0)):=(hg.block _ (lt_of_some h.m.non) (h.ne _ (by omega)).symm).trans h.m.non;have hbel:Below w.heap.size w W':=keep_grown h.m.below h.own hg (by omega) (Nat.le_refl _);have hbox:=h.stay hg;refine⟨⟨by rw [heap_setCell_other _ _ _ _ (by show g≠g+2;omega)];exact hans,by rw [heap_setCell_other _ _ _ _ (by show g+1≠g+2;omega)];exact hnon,hbel.setCell (p:=⟨g+2,5,none⟩) (by show w.heap.size≤g+2;omega) _,hgs⟩,?_,?_⟩
 ·rw [heap_setCell_same W' (g+2) 5 _ _ v' hbox]
  rfl
 ·have h2:W'.ownsRow (g+3) 131 2 v' (E++[x]).length (exCells (E++[x])):=by
   rw [List.length_append];have:exCells (E++[x])=exCells E++[.int .i64 x.O,.string x.D]:=by unfold exCells;rw [List.flatMap_append];rfl
   rw [this];exact ho
  exact Jad (p:=⟨g+2,5,none⟩) h2 (fun e=>by have h3:g+3≤g+2:=(h2.lt _ e).1;omega) _
theorem numB4 (s:ByteArray) (p:Nat): -1≤numB s p 4∧numB s p 4<4294967296:=by
 unfold numB;split
 ·have h:=Je5 4 ((s.data.toList.drop p).take 4) (by have hl:s.data.toList.length=s.size:=rfl;rw [List.length_take,List.length_drop,hl];omega)
  omega
 ·omega
def fileR (s:ByteArray):Option (List Ex×List UInt8):=if numB s 5 4<0 then none else exP (numB s 5 4).toNat (s.data.toList.drop 9)
theorem Jvm {s:ByteArray} {p k:Nat} (h:numB s (p+4) 4<0∨(s.size:Int)<(p:Int)+8+numB s (p+4) 4):exP (k+1) (s.data.toList.drop p)=none:=by
 have hl:s.data.toList.length=s.size:=rfl;rw [exP];unfold takeP textP takeP;by_cases h4:4≤(s.data.toList.drop p).length
 ·rw [if_pos h4]
  rw [List.length_drop,hl] at h4;by_cases h8:p+4+4≤s.size
  ·rw [Jay h8] at h
   simp only [List.drop_drop];rw [if_pos (by rw [List.length_drop,hl];omega)];simp only;rw [if_neg (by simp only [List.length_drop,hl];omega)]
  ·simp only [List.drop_drop]
   rw [if_neg (by rw [List.length_drop,hl];omega)]
 ·rw [if_neg h4]
theorem Jxk {s:ByteArray} {p k z:Nat} (h1:numB s (p+4) 4=(z:Int)) (h2:p+8+z≤s.size):
  exP (k+1) (s.data.toList.drop p)=(exP k (s.data.toList.drop (p+8+z))).map fun R=>(⟨numB s p 4,s.extract (p+8) (p+8+z)⟩::R.1,R.2):=by
 have hl:s.data.toList.length=s.size:=rfl;have hz:num ((s.data.toList.drop (p+4)).take 4)=z:=by
  rw [Jay (by omega)] at h1;omega
 rw [Jay (show p+4≤s.size by omega),exP];unfold takeP textP takeP;rw [if_pos (by rw [List.length_drop,hl];omega)];simp only [List.drop_drop];rw [if_pos (by rw [List.length_drop,hl];omega)];simp only;rw [hz,if_pos (by simp only [List.length_drop,hl];omega)];have hx:mkB ((s.data.toList.drop (p+4+4)).take z)=s.extract (p+8) (p+8+z):=by
  have h:=(Jei s (p+8) z h2).1;have:mkB (s.extract (p+8) (p+8+z)).data.toList=s.extract (p+8) (p+8+z):=rfl;rw [h] at this;exact this
 simp only;rw [hx,List.drop_drop,show p+4+4+z=p+8+z by omega];rcases exP k (s.data.toList.drop (p+8+z)) with _ |⟨E,l⟩<;>rfl
theorem Jyh {w W:World} {base:Nat} {e:TypeId} {A:Option Addr} {n c:Nat} {L:List Ex} (hn:n=L.length) (h:W.ownsRow base e 2 (.slice A n c) n (exCells L))
  (hL:∀x∈L,-9223372036854775808≤x.O∧x.O≤9223372036854775807∧x.D.size≤140737488355328) (hb:w.heap.size≤base):ExtIn W (Fresh w W) A L:=fun i x hx=>by
 obtain⟨⟨b,off,rfl,h2,h3,h4⟩,h5⟩:=Exts.of_own hn h hL i x hx;exact⟨⟨b,off,rfl,⟨Nat.le_trans hb (h.lt b rfl).1,h2⟩,h3,h4⟩,h5⟩
theorem Juf {w:World} {base:Nat} {e:TypeId} {size n g:Nat} {v:Value} {xs:List Value} (h:w.ownsRow base e size v n xs) (hne:v.ownBlock≠some g) (u0 u1 u2 u3 u4 u5 u6 u7:Value):(set8 w g u0 u1 u2 u3 u4 u5 u6 u7).ownsRow base e size v n xs:=
 Jad (p:=⟨g,7,none⟩) (Jad (p:=⟨g,6,none⟩) (Jad (p:=⟨g,5,none⟩) (Jad (p:=⟨g,4,none⟩) (Jad (p:=⟨g,3,none⟩) (Jad (p:=⟨g,2,none⟩) (Jad (p:=⟨g,1,none⟩) (Jad (p:=⟨g,0,none⟩) h hne _) hne _) hne _) hne _) hne _) hne _) hne _) hne _
def FileOut (s:ByteArray) (q1:Int) (R:Option (List Ex×List UInt8)) (w:World) (e:Ending) (w':World):Prop:=
 ((R=none∧e= .returned gotN)∨(∃(E:List Ex) (p:Nat) (pI:Int) (r:Raw),R=some (E,s.data.toList.drop p)∧p≤s.size∧pI=(p:Int)∧e= .returned (gotV (.mk 1 false [] [] q1 E ⟨#[]⟩) r pI)∧NdIn w' (Fresh w w') (.mk 1 false [] [] q1 E ⟨#[]⟩) r))∧Below w.heap.size w w'
theorem Jvi (s:ByteArray) (d:Int) (w:World) (h1:¬15<d) (h2:0<s.size) (hsm:s.size≤100000) (hkk:s[0].toNat=1) (q1 qm:Int) (hq1:numB s 1 4=q1) (hqm:numB s 5 4=qm) (R:Option (List Ex×List UInt8)) (hR:fileR s=R):
  Calls prog 25 #[.string s,.int .i64 d] w (FileOut s q1 R w):=by
 obtain⟨iX,hiX,zX0,zX1,zX2⟩:=info_parts infoExt2;obtain⟨W2,hW2⟩:=words.nm ((w.alloc (.cells got0 96)).alloc (.cells gotM 96));have hG:GotM w w.heap.size W2:=by rw [hW2];exact GotM.start w
 have HG:=hid hG;obtain⟨g,hg⟩:=words.nm (w.heap.size);have hs2:W2.heap.size=w.heap.size+2:=by rw [hW2];simp
 unfold got0 gotM at hW2;have HW2:=hid hW2;clear hG hW2;go_enter func25,ntmps25
 go_upto_region 2 with fail
 rw [←HW2.out];rw [←hg] at HG hs2 ⊢;clear HW2 hg;have l1:¬(s.size:Int)<1:=by omega
 have l2:(0:Int)<(s.size:Int):=by omega
 have hu:(s[0].toNat:Int)<256:=by have:=s[0].toNat_lt;omega
 go_upto_region 6 with fail
 obtain⟨W3,hW3⟩:=words.nm (W2.alloc (.cells #[.int .i64 1,.bool false,.slice none 0 0,.slice none 0 0,.int .i64 0,.slice none 0 0,.string ⟨#[]⟩] 46));rw [←hW3];have hb3:Below W2.heap.size W2 W3:=words.b1 hW3;have hk3:W3.heap[W2.heap.size]?=some (.cells #[.int .i64 1,.bool false,.slice none 0 0,.slice none 0 0,.int .i64 0,.slice none 0 0,.string ⟨#[]⟩] 46 (0,0)):=by rw [hW3];exact heap_alloc_new W2 _
 rw [hs2] at hk3;replace HG:=hid (HG.out.later hb3);have HK:=hid hk3;clear hW3 hb3 hk3 hs2 hu;clear hkk;have HN1:=hid (show Calls prog 56 #[.string s,.int .i64 1,.int .i64 4] W3 _ from Jak s 1 4 W3 (by decide) (by decide));rw [hq1] at HN1;have hb1:=numB4 s 1;rw [hq1] at hb1;obtain⟨hb10,hb11⟩:=hb1;have b0:=Jaa HK.out 0;have b1:=Jaa HK.out 1;have b2:=Jaa HK.out 2;have b3:=Jaa HK.out 3;have b4:=Jaa HK.out 4;have b5:=Jaa HK.out 5;have b6:=Jaa HK.out 6;have f4:=Jab HK.out 4;obtain⟨W5,hW5⟩:=words.nm (W3.setCell ⟨g+2,4,none⟩ (.int .i64 q1));have hF5:FileIn w g q1 [] (.slice none 0 0) W5:=by
  have hsz:=HG.out.size;refine⟨⟨by rw [hW5,heap_setCell_other _ _ _ _ (by show g≠g+2;omega)];exact HG.out.ans,by rw [hW5,heap_setCell_other _ _ _ _ (by show g+1≠g+2;omega)];exact HG.out.non,by rw [hW5];exact HG.out.below.setCell (p:=⟨g+2,4,none⟩) (by show w.heap.size≤g+2;omega) _,hsz⟩,?_,World.ownsRow_nil _ _ _ _⟩;rw [hW5,heap_setCell_same W3 (g+2) 4 _ _ (.int .i64 q1) HK.out];rfl
 have HF5:=hid hF5;have HW5:=hid hW5;have HN5:=hid (show Calls prog 56 #[.string s,.int .i64 5,.int .i64 4] W5 _ from Jak s 5 4 W5 (by decide) (by decide));rw [hqm] at HN5;have hbm:=numB4 s 5;rw [hqm] at hbm;obtain⟨hbm0,hbm1⟩:=hbm;have HQm:=hid hqm;have HR:=hid hR;clear hW5 hF5 HG HK hq1 hqm hR zX0 zX1 zX2;obtain⟨iX2,hiX2,zX0,zX1,zX2⟩:=info_parts infoExt2;go_wp2_with fail
 refine HN1.out.mono ?_;rintro e w4 ⟨rfl,rfl⟩;go_upto_region 8 with fail
 rw [←HW5.out];clear HW5 HN1 b0 b1 b2 b3 b4 b5 b6 f4;go_wp2_with fail
 refine HN5.out.mono ?_;rintro e w6 ⟨rfl,rfl⟩;clear HN5;by_cases hneg:qm<0
 ·have HE:=hid (show R=none by rw [←HR.out];unfold fileR;rw [HQm.out,if_pos hneg])
  clear HR HQm;obtain⟨n0,n1,n2,n3,n4,n5,n6,n7⟩:=HF5.out.m.nons;obtain⟨a0,a1,a2,a3,a4,a5,a6,a7⟩:=HF5.out.m.anss;have z0:=HF5.out.m.free 0;have z1:=HF5.out.m.free 1;have z2:=HF5.out.m.free 2;have z3:=HF5.out.m.free 3;have z4:=HF5.out.m.free 4;have z5:=HF5.out.m.free 5;have z6:=HF5.out.m.free 6;have z7:=HF5.out.m.free 7;have b0:=Jaa HF5.out.box 0;have b1:=Jaa HF5.out.box 1;have b2:=Jaa HF5.out.box 2;have b3:=Jaa HF5.out.box 3;have b4:=Jaa HF5.out.box 4;have b5:=Jaa HF5.out.box 5;have b6:=Jaa HF5.out.box 6;go_wp2_with fail
  obtain⟨Wd,hWd,hbd,hkd⟩:=HF5.out.m.none;have p0:=Jaa hkd 0;have p1:=Jaa hkd 1;have p2:=Jaa hkd 2;have p3:=Jaa hkd 3;have p4:=Jaa hkd 4;have p5:=Jaa hkd 5;have p6:=Jaa hkd 6;have p7:=Jaa hkd 7;unfold set8 at hWd;unfold gotM at p0 p1 p2 p3 p4 p5 p6 p7;rw [←hWd];exact bodyPost_ret (v:=gotN) (by simp [results,results25,go_sem,gotN,p0,p1,p2,p3,p4,p5,p6,p7]) rfl ⟨.inl ⟨HE.out,rfl⟩,hbd⟩
 ·have HM:=hid (show exP qm.toNat (s.data.toList.drop 9)=R by rw [←HR.out];unfold fileR;rw [HQm.out,if_neg hneg])
  have H9:=hid (show 9≤s.size by
    rcases Nat.lt_or_ge s.size 9 with h |h
    ·have:=HQm.out;rw [Jcx (by omega)] at this;omega
    ·exact h)
  clear HR HQm;have bb:=Jaa HF5.out.box 0;clear bb;go_wp2_with fail
  go_loopw [9,7] (fun v9 v7 wr=>∃(i p:Nat) (pI:Int) (E:List Ex) (v:Value),v9= .int .i64 (i:Int)∧v7= .int .i64 pI∧Hid (pI=(p:Int))∧(i:Int)≤qm∧Hid (9+8*i≤p∧p≤s.size)∧Hid (E.length=i)∧Hid (FileIn w g q1 E v wr)∧Hid (R=(exP (qm.toNat - i) (s.data.toList.drop p)).map fun Q=>(E++Q.1,Q.2))∧Hid (∀x∈E,-9223372036854775808≤x.O∧x.O≤9223372036854775807∧x.D.size≤140737488355328)) (fun v _ _=>qm.toNat - (intOf v).toNat)
  case atStart=>exact⟨0,9,9,[],_,rfl,rfl,hid rfl,by omega,hid ⟨by omega,H9.out⟩,hid rfl,HF5,hid (by rw [←HM.out,Nat.sub_zero];rcases exP qm.toNat (s.data.toList.drop 9) with _ |⟨a,b⟩<;>rfl),hid fun x hx=>by cases hx⟩
  case round=>
   clear HF5 HM H9;obtain⟨i,p,pI,E,v,rfl,rfl,HP,hi,HL,HLen,HF,HX,HOk⟩:=hrel;have hp0:0≤pI:=by have:=HP.out;omega
   have hp1:pI≤100000:=by have:=HP.out;have:=HL.out;omega
   by_cases hlt:(i:Int)<qm
   ·obtain⟨qa,hqa⟩:∃qa,numB s p 4=qa:=⟨_,rfl⟩
    obtain⟨qb,hqb⟩:∃qb,numB s (p+4) 4=qb:=⟨_,rfl⟩
    have hA4:=numB4 s p;have hB4:=numB4 s (p+4);rw [hqa] at hA4;rw [hqb] at hB4;obtain⟨hA40,hA41⟩:=hA4;obtain⟨hB40,hB41⟩:=hB4;have HNa:Hid (Calls prog 56 #[.string s,.int .i64 pI,.int .i64 4] wr fun e w'=>e= .returned (.int .i64 qa)∧w'=wr):=hid (by
      have h:=Jak s p 4 wr (by decide) (by have:=HL.out;omega);rw [hqa,←HP.out] at h;exact h)
    have HNb:Hid (Calls prog 56 #[.string s,.int .i64 (pI+4),.int .i64 4] wr fun e w'=>e= .returned (.int .i64 qb)∧w'=wr):=hid (by
      have h:=Jak s (p+4) 4 wr (by decide) (by have:=HL.out;omega);rw [hqb,show ((p+4:Nat):Int)=pI+4 by have:=HP.out;omega] at h;exact h)
    have HQa:=hid hqa;have HQb:=hid hqb;have HK1:Hid (qm.toNat - i=(qm.toNat - (i+1))+1):=hid (by omega);have r0: -9223372036854775808≤pI+4:=by omega
    have r1:pI+4<9223372036854775808:=by omega
    have r2: -9223372036854775808≤pI+8:=by omega
    have r3:pI+8<9223372036854775808:=by omega
    have r4: -9223372036854775808≤pI+8+qb:=by omega
    have r5:pI+8+qb<9223372036854775808:=by omega
    clear hqa hqb;go_wp2_with fail
    refine HNa.out.mono ?_;rintro e wa ⟨rfl,rfl⟩;clear HNa;go_wp2_with fail
    refine HNb.out.mono ?_;rintro e wb ⟨rfl,rfl⟩;clear HNb;by_cases hn0:qb<0
    ·have HE:=hid (show R=none by rw [HX.out,HK1.out,Jvm (.inl (by rw [HQb.out];exact hn0))];rfl)
     obtain⟨n0,n1,n2,n3,n4,n5,n6,n7⟩:=HF.out.m.nons;obtain⟨a0,a1,a2,a3,a4,a5,a6,a7⟩:=HF.out.m.anss;have z0:=HF.out.m.free 0;have z1:=HF.out.m.free 1;have z2:=HF.out.m.free 2;have z3:=HF.out.m.free 3;have z4:=HF.out.m.free 4;have z5:=HF.out.m.free 5;have z6:=HF.out.m.free 6;have z7:=HF.out.m.free 7;have b0:=Jaa HF.out.box 0;have b1:=Jaa HF.out.box 1;have b2:=Jaa HF.out.box 2;have b3:=Jaa HF.out.box 3;have b4:=Jaa HF.out.box 4;have b5:=Jaa HF.out.box 5;have b6:=Jaa HF.out.box 6;go_wp2_with fail
     obtain⟨Wd,hWd,hbd,hkd⟩:=HF.out.m.none;have p0:=Jaa hkd 0;have p1:=Jaa hkd 1;have p2:=Jaa hkd 2;have p3:=Jaa hkd 3;have p4:=Jaa hkd 4;have p5:=Jaa hkd 5;have p6:=Jaa hkd 6;have p7:=Jaa hkd 7;unfold set8 at hWd;unfold gotM at p0 p1 p2 p3 p4 p5 p6 p7;rw [←hWd];exact bodyPost_ret (v:=gotN) (by simp [results,results25,go_sem,gotN,p0,p1,p2,p3,p4,p5,p6,p7]) rfl ⟨.inl ⟨HE.out,rfl⟩,hbd⟩
    ·by_cases hn1:(s.size:Int)<pI+8+qb
     ·have HE:=hid (show R=none by rw [HX.out,HK1.out,Jvm (.inr (by rw [HQb.out,←HP.out];exact hn1))];rfl)
      obtain⟨n0,n1,n2,n3,n4,n5,n6,n7⟩:=HF.out.m.nons;obtain⟨a0,a1,a2,a3,a4,a5,a6,a7⟩:=HF.out.m.anss;have z0:=HF.out.m.free 0;have z1:=HF.out.m.free 1;have z2:=HF.out.m.free 2;have z3:=HF.out.m.free 3;have z4:=HF.out.m.free 4;have z5:=HF.out.m.free 5;have z6:=HF.out.m.free 6;have z7:=HF.out.m.free 7;have b0:=Jaa HF.out.box 0;have b1:=Jaa HF.out.box 1;have b2:=Jaa HF.out.box 2;have b3:=Jaa HF.out.box 3;have b4:=Jaa HF.out.box 4;have b5:=Jaa HF.out.box 5;have b6:=Jaa HF.out.box 6;go_wp2_with fail
      obtain⟨Wd,hWd,hbd,hkd⟩:=HF.out.m.none;have p0:=Jaa hkd 0;have p1:=Jaa hkd 1;have p2:=Jaa hkd 2;have p3:=Jaa hkd 3;have p4:=Jaa hkd 4;have p5:=Jaa hkd 5;have p6:=Jaa hkd 6;have p7:=Jaa hkd 7;unfold set8 at hWd;unfold gotM at p0 p1 p2 p3 p4 p5 p6 p7;rw [←hWd];exact bodyPost_ret (v:=gotN) (by simp [results,results25,go_sem,gotN,p0,p1,p2,p3,p4,p5,p6,p7]) rfl ⟨.inl ⟨HE.out,rfl⟩,hbd⟩
     ·obtain⟨z,hzq⟩:∃z:Nat,qb=(z:Int):=⟨qb.toNat,by omega⟩
      have hpz:p+8+z≤s.size:=by have:=HP.out;omega
      obtain⟨t,ht⟩:=words.nm (s.extract (p+8) (p+8+z));have hts:t.size≤140737488355328:=by rw [ht,ByteArray.size_extract];omega
      have hpi:=HP.out;have hsl:∀wx:World,(Instr.slice 9 (.string s) (some (.int .i64 (pI+8))) (some (.int .i64 (pI+8+qb))) none).run prog wx= .ok (.string t) wx:=fun wx=>by
       rw [run_slice_string_if (P:=prog) (w:=wx) 9 s .i64 .i64 (pI+8) (pI+8+qb) underlying9,if_pos ⟨by omega,by omega⟩,if_pos ⟨by omega,by omega⟩,ht,show (pI+8).toNat=p+8 by omega,show (pI+8+qb).toNat=p+8+z by omega]
      have HX2:Hid (R=(exP (qm.toNat - (i+1)) (s.data.toList.drop (p+8+z))).map fun Q=>((E++[⟨qa,t⟩])++Q.1,Q.2)):=hid (by
        rw [HX.out,HK1.out,Jxk (by rw [HQb.out];exact hzq) hpz,HQa.out,←ht];rcases exP (qm.toNat - (i+1)) (s.data.toList.drop (p+8+z)) with _ |⟨E2,l2⟩
        ·rfl
        ·simp)
      have HP2:=hid (show pI+8+qb=((p+8+z:Nat):Int) by omega);have HL2:=hid (show 9+8*(i+1)≤p+8+z∧p+8+z≤s.size by have:=HL.out;omega);have HOk2:Hid (∀x∈E++[⟨qa,t⟩],-9223372036854775808≤x.O∧x.O≤9223372036854775807∧x.D.size≤140737488355328):=hid fun x hx=>by
       rcases List.mem_append.1 hx with hx |hx
       ·exact HOk.out x hx
       ·obtain rfl:x=⟨qa,t⟩:=by simpa using hx
        exact⟨by show -9223372036854775808≤qa;omega,by show qa≤9223372036854775807;omega,hts⟩
      have HLen2:=hid (show (E++[(⟨qa,t⟩:Ex)]).length=i+1 by rw [List.length_append,HLen.out];rfl);have hEl:E.length≤100000:=by have:=HLen.out;have:=HL.out;omega
      have hbz:=lt_of_some HF.out.box;have hgz:g+3≤wb.heap.size:=by omega
      have b5:=Jaa HF.out.box 5;have b5o:∀o:Obj,(wb.alloc o).cell? ⟨g+2,5,none⟩=some v:=fun o=>Jaa (HF.out.alloc o).box 5;have w8:IntKind.i64.wrap (pI+8)=pI+8:=IntWalk.i64_in _ (by omega);have w9:IntKind.i64.wrap (pI+8+qb)=pI+8+qb:=IntWalk.i64_in _ (by omega);clear HX HOk ht hzq hpz hpi HQa HQb HK1 HP HL HLen;go_upto_region 19 with fail
      go_region_law
       ((refine step_append_lies _ (by rfl) _ _ _ (by rfl) (g+3) 131 iX2 _ 2 24 underlying44 hiX2 zX0 zX1 zX2 rfl (by omega) v E.length (exCells E) (by rfl) ((HF.out.alloc _).drew.own)
           ⟨wb.heap.size,0,none⟩ 1 1 [.int .i64 qa,.string t] (by rfl) (by rfl) (World.news_of_block (cs:=#[.int .i64 qa,.string t]) (t:=131) (fr:=(0,0)) (heap_alloc_new wb _)) (by simp [Value.oneCell'])
           (by omega) (by simp only [maxLen];omega) (by omega) (by simp;omega) (wb.heap.size+1) (by simp) ?_;intro gg cap w1 hown1 hgrow hat hlt1;have hc1:=Jaa ((HF.out.alloc _).drew.stay hgrow) 5;have hf1:=Jab ((HF.out.alloc _).drew.stay hgrow) 5))
      all_goals
       have HFn:=hid ((HF.out.alloc _).drew.put (x:=⟨qa,t⟩) hgrow hown1);clear hown1 hgrow hat hlt1 hc1 hf1 b5 b5o hsl w8 w9;go_wp2_with fail
       go_roundw
       case rel=>exact⟨i+1,p+8+z,pI+8+qb,E++[⟨qa,t⟩],_,by go_num,rfl,HP2,by omega,HL2,HLen2,HFn,HX2,HOk2⟩
       case measure=>simp [intOf];omega
   ·obtain⟨Ae,ce,rfl,hce,hze⟩:=own_facts HF.out.own
    have HR2:=hid (show R=some (E,s.data.toList.drop p) by rw [HX.out,show qm.toNat - i=0 by omega];show some (E++[],_)=_;rw [List.append_nil]);have HKp:=hid (show ∀b,b<g+3→(Value.slice Ae E.length ce).ownBlock≠some b from HF.out.ne);have HOw:=hid HF.out.own;have hEl:E.length*24≤140737488355328:=by have:=HLen.out;have:=HL.out;omega
    have hq63:q1≤9223372036854775807:=by omega
    have hq64: -9223372036854775808≤q1:=by omega
    have HFit:Hid (Fit (.mk 1 false [] [] q1 E ⟨#[]⟩) ⟨none,0,none,0,Ae,ce⟩):=hid ⟨show (-9223372036854775808:Int)≤1 by decide,show (1:Int)≤9223372036854775807 by decide,hq64,hq63,show 0≤140737488355328 by decide,show 0*16≤140737488355328 by decide,show 0*112≤140737488355328 by decide,hEl,Nat.le_refl _,Nat.le_refl _,hce,fun _=>⟨rfl,rfl⟩,fun _=>⟨rfl,rfl⟩,hze⟩;clear hEl hce hze;obtain⟨n0,n1,n2,n3,n4,n5,n6,n7⟩:=HF.out.m.nons;obtain⟨a0,a1,a2,a3,a4,a5,a6,a7⟩:=HF.out.m.anss;have z0:=HF.out.m.free 0;have z1:=HF.out.m.free 1;have z2:=HF.out.m.free 2;have z3:=HF.out.m.free 3;have z4:=HF.out.m.free 4;have z5:=HF.out.m.free 5;have z6:=HF.out.m.free 6;have z7:=HF.out.m.free 7;have b0:=Jaa HF.out.box 0;have b1:=Jaa HF.out.box 1;have b2:=Jaa HF.out.box 2;have b3:=Jaa HF.out.box 3;have b4:=Jaa HF.out.box 4;have b5:=Jaa HF.out.box 5;have b6:=Jaa HF.out.box 6;go_wp2_with fail
    obtain⟨Wd,hWd,hbd,hkd⟩:=HF.out.m.put (.int .i64 1) (.bool false) (.slice none 0 0) (.slice none 0 0) (.int .i64 q1) (.slice Ae E.length ce) (.string ⟨#[]⟩) (.int .i64 pI);have hod:Wd.ownsRow (g+3) 131 2 (.slice Ae E.length ce) E.length (exCells E):=by rw [hWd];exact Juf HOw.out (HKp.out g (by omega)) _ _ _ _ _ _ _ _
    have hnd:NdIn Wd (Fresh w Wd) (.mk 1 false [] [] q1 E ⟨#[]⟩) ⟨none,0,none,0,Ae,ce⟩:= .mk (fun _=>raw0) HFit.out (fun _ _ hx=>(Jba hx).elim) (Jyh rfl hod HOk.out (by have:=HF.out.m.size;omega)) (fun _ _ hx=>(Jba hx).elim) (fun _ _ hx=>(Jba hx).elim);have p0:=Jaa hkd 0;have p1:=Jaa hkd 1;have p2:=Jaa hkd 2;have p3:=Jaa hkd 3;have p4:=Jaa hkd 4;have p5:=Jaa hkd 5;have p6:=Jaa hkd 6;have p7:=Jaa hkd 7;unfold set8 at hWd;rw [←hWd];exact bodyPost_ret (v:=gotV (.mk 1 false [] [] q1 E ⟨#[]⟩) ⟨none,0,none,0,Ae,ce⟩ pI) (by simp [results,results25,go_sem,gotV,p0,p1,p2,p3,p4,p5,p6,p7,Nd.K,Nd.O,Nd.N,Nd.I,Nd.S,Nd.E,Nd.T]) rfl ⟨.inr ⟨E,p,pI,_,HR2.out,HL.out.2,HP.out,rfl,hnd⟩,hbd⟩

theorem Ja8 {s:ByteArray} {p z:Nat} (h:p+z≤s.size):takeP z (s.data.toList.drop p)=some (num ((s.data.toList.drop p).take z),s.data.toList.drop (p+z)):=by
 have hl:s.data.toList.length=s.size:=rfl;unfold takeP;rw [if_pos (by rw [List.length_drop,hl];omega),List.drop_drop]
theorem Jb3 {s:ByteArray} {p z:Nat} (h:¬p+z≤s.size) (hz:0<z):takeP z (s.data.toList.drop p)=none:=by
 have hl:s.data.toList.length=s.size:=rfl;unfold takeP;rw [if_neg (by rw [List.length_drop,hl];omega)]
theorem Jbm {s:ByteArray} (h:0<s.size):takeP 1 s.data.toList=some (s[0].toNat,s.data.toList.drop 1):=by
 have hl:s.data.toList.length=s.size:=rfl;have h1:=Ja8 (s:=s) (p:=0) (z:=1) (by omega);rw [List.drop_zero] at h1;rw [h1];have h2:s.data.toList.take 1=[s[0]]:=by
  rcases hs:s.data.toList with _ |⟨a,l⟩
  ·rw [hs] at hl;simp at hl;omega
  ·have:s[0]=a:=by
    have h3:s.data.toList[0]?=some s[0]:=by
     rw [Array.getElem?_toList];exact Array.getElem?_eq_getElem (by exact h)
    rw [hs] at h3;simpa using h3.symm
   rw [this];rfl
 rw [h2];have:num [s[0]]=s[0].toNat:=by simp [num]
 rw [this]
theorem Jn4 {f:Nat} {s:ByteArray} (h:s.size=0):getP f s.data.toList=none:=by
 have hl:s.data.toList.length=s.size:=rfl;have hn:s.data.toList=[]:=List.eq_nil_of_length_eq_zero (by omega);rcases f with _ |f
 ·rfl
 ·rw [Jcj,hn]
  rfl
theorem Jjl {f:Nat} {s:ByteArray} (h:0<s.size) (hk:s[0].toNat=1):getP (f+1) s.data.toList=(fileR s).map fun R=>(.mk 1 false [] [] (numB s 1 4) R.1 ⟨#[]⟩,R.2):=by
 rw [Jcj,Jbm h,hk];simp only [if_true];unfold fileP fileR;by_cases h5:1+4≤s.size
 ·rw [Ja8 h5]
  simp only;by_cases h9:5+4≤s.size
  ·rw [Ja8 h9,Jay h9,Jay h5]
   simp only;rw [if_neg (by omega),Int.toNat_natCast];rcases exP (num ((s.data.toList.drop 5).take 4)) (s.data.toList.drop (5+4)) with _ |⟨E,l⟩<;>rfl
  ·rw [Jb3 h9 (by decide),Jcx h9]
   rfl
 ·have h9:numB s 5 4= -1:=Jcx (by omega)
  rw [Jb3 h5 (by decide),h9];rfl
theorem Jox {f:Nat} {s:ByteArray} (h:0<s.size) (hk:s[0].toNat=4):getP (f+1) s.data.toList=some (whiteN,s.data.toList.drop 1):=by
 rw [Jcj,Jbm h,hk];rfl
theorem Jo9 {f:Nat} {s:ByteArray} (h:0<s.size) (hk:s[0].toNat≠1∧s[0].toNat≠2∧s[0].toNat≠3∧s[0].toNat≠4):getP (f+1) s.data.toList=none:=by
 rw [Jcj,Jbm h];simp only;rw [if_neg hk.1,if_neg hk.2.1,if_neg hk.2.2.1,if_neg hk.2.2.2]
theorem Jjx {f:Nat} {s:ByteArray} (h:0<s.size) (hk:s[0].toNat=3) (hn:¬(0≤numB s 1 2∧3+numB s 1 2≤(s.size:Int))):getP (f+1) s.data.toList=none:=by
 have hl:s.data.toList.length=s.size:=rfl;rw [Jcj,Jbm h,hk];simp only;rw [if_neg (by decide),if_neg (by decide),if_pos trivial];unfold textP;by_cases h3:1+2≤s.size
 ·rw [Ja8 h3]
  rw [Jay h3] at hn;simp only;rw [if_neg (by rw [List.length_drop,hl];omega)]
 ·rw [Jb3 h3 (by decide)]
theorem Jqf {f:Nat} {s:ByteArray} {z:Nat} (h:0<s.size) (hk:s[0].toNat=3) (h1:numB s 1 2=(z:Int)) (h2:3+z≤s.size):getP (f+1) s.data.toList=some (linkAt s z,s.data.toList.drop (3+z)):=by
 have hl:s.data.toList.length=s.size:=rfl;rw [Jcj,Jbm h,hk];simp only;rw [if_neg (by decide),if_neg (by decide),if_pos trivial];unfold textP;rw [Ja8 (show 1+2≤s.size by omega)];rw [Jay (show 1+2≤s.size by omega)] at h1;have hz:num ((s.data.toList.drop 1).take 2)=z:=by omega
 simp only;rw [hz,if_pos (by rw [List.length_drop,hl];omega),List.drop_drop];have hx:mkB ((s.data.toList.drop 3).take z)=s.extract 3 (3+z):=by
  have h:=(Jei s 3 z h2).1;have:mkB (s.extract 3 (3+z)).data.toList=s.extract 3 (3+z):=rfl;rw [h] at this;exact this
 show some (Nd.mk 3 false [] [] 0 [] (mkB ((s.data.toList.drop 3).take z)),_)=_;rw [hx];rfl
theorem Jj5 {s:ByteArray} {p z:Nat} (h1:numB s p 1=(z:Int)) (h2:p+1+z≤s.size):textP 1 (s.data.toList.drop p)=some ((s.data.toList.drop (p+1)).take z,s.data.toList.drop (p+1+z)):=by
 have hl:s.data.toList.length=s.size:=rfl;unfold textP;rw [Ja8 (show p+1≤s.size by omega)];rw [Jay (show p+1≤s.size by omega)] at h1;have hz:num ((s.data.toList.drop p).take 1)=z:=by omega
 simp only;rw [hz,if_pos (by rw [List.length_drop,hl];omega),List.drop_drop]
theorem Jra {s:ByteArray} {p:Nat} (h:numB s p 1<0∨(s.size:Int)<(p:Int)+1+numB s p 1):textP 1 (s.data.toList.drop p)=none:=by
 have hl:s.data.toList.length=s.size:=rfl;unfold textP;by_cases h3:p+1≤s.size
 ·rw [Ja8 h3]
  rw [Jay h3] at h;simp only;rw [if_neg (by rw [List.length_drop,hl];omega)]
 ·rw [Jb3 h3 (by decide)]
theorem Jw1 {s:ByteArray} {p z:Nat} (h:p+z≤s.size):mkB ((s.data.toList.drop p).take z)=s.extract p (p+z):=by
 have h1:=(Jei s p z h).1;have:mkB (s.extract p (p+z)).data.toList=s.extract p (p+z):=rfl;rw [h1] at this;exact this
theorem Jrr {f k:Nat} {s:ByteArray} {p c:Nat} (h:numB s p 1<0∨(s.size:Int)<(p:Int)+1+numB s p 1):itP (getC f) (k+1) c (s.data.toList.drop p)=none:=by
 rw [itP,Jra h]
theorem Jxj {f k:Nat} {s:ByteArray} {p z c:Nat} (h1:numB s p 1=(z:Int)) (h2:p+1+z≤s.size) (h3:getP f (s.data.toList.drop (p+1+z))=none):itP (getC f) (k+1) c (s.data.toList.drop p)=none:=by
 rw [itP,Jj5 h1 h2];simp only;unfold getC;rw [h3];rfl
theorem Jtv {f k:Nat} {s:ByteArray} {p z c:Nat} {x:Nd} {l:List UInt8} (h1:numB s p 1=(z:Int)) (h2:p+1+z≤s.size) (h3:getP f (s.data.toList.drop (p+1+z))=some (x,l)):
  itP (getC f) (k+1) c (s.data.toList.drop p)=(itP (getC f) k c l).map fun R=>(s.extract (p+1) (p+1+z)::R.1,x::R.2.1,R.2.2):=by
 rw [itP,Jj5 h1 h2];simp only;have hg:getC f c (s.data.toList.drop (p+1+z))=some (x,l,c):=by unfold getC;rw [h3];rfl
 rw [hg];simp only;rw [Jw1 h2];rcases itP (getC f) k c l with _ |⟨N,I,l3,c3⟩<;>rfl
def dirR (f:Nat) (s:ByteArray):Option (List ByteArray×List Nd×List UInt8×Nat):=if numB s 2 2<0∨1<numB s 1 1 then none else itP (getC f) (numB s 2 2).toNat 0 (s.data.toList.drop 4)
theorem Jh4 {f:Nat} {s:ByteArray} (h:0<s.size) (hk:s[0].toNat=2):getP (f+1) s.data.toList=(dirR f s).map fun R=>(.mk 2 (decide (numB s 1 1=1)) R.1 R.2.1 0 [] ⟨#[]⟩,R.2.2.1):=by
 rw [Jcj,Jbm h,hk];simp only;rw [if_neg (by decide),if_pos trivial];unfold dirP dirR;by_cases h2:1+1≤s.size
 ·rw [Ja8 h2,Jay h2]
  simp only;by_cases h1:1<num ((s.data.toList.drop 1).take 1)
  ·rw [if_pos h1,if_pos (.inr (by omega))]
   rfl
  ·rw [if_neg h1]
   by_cases h4:2+2≤s.size
   ·rw [Ja8 h4,Jay h4,if_neg (by omega),Int.toNat_natCast]
    simp only;have hd:decide (((num ((s.data.toList.drop 1).take 1):Nat):Int)=1)=decide (num ((s.data.toList.drop 1).take 1)=1):=by
     rw [decide_eq_decide];omega
    rw [hd];rcases itP (getC f) (num ((s.data.toList.drop 2).take 2)) 0 (s.data.toList.drop (2+2)) with _ |⟨N,I,l3,c3⟩<;>rfl
   ·rw [Jb3 h4 (by decide),Jcx h4,if_pos (.inl (by decide))]
    rfl
 ·have h4:numB s 2 2= -1:=Jcx (by omega)
  rw [Jb3 h2 (by decide),h4,if_pos (.inl (by decide))];rfl

theorem Jns {s:ByteArray} (h:1<s.size):numB s 1 1=(s[1].toNat:Int):=by
 have hl:s.data.toList.length=s.size:=rfl;rw [Jay (by omega)];have h2:(s.data.toList.drop 1).take 1=[s[1]]:=by
  have h3:s.data.toList[1]?=some s[1]:=by
   rw [Array.getElem?_toList];exact Array.getElem?_eq_getElem (by exact h)
  have h4:1<s.data.toList.length:=by omega
  rw [List.getElem?_eq_getElem h4] at h3;rw [List.drop_eq_getElem_cons h4,List.take_succ_cons,List.take_zero];congr 1
 rw [h2];simp [num]
theorem Joo (s:ByteArray) (d:Int) (w:World) (h1:¬15<d) (h2:0<s.size) (hkk:s[0].toNat=2) (hno:numB s 2 2<0∨1<numB s 1 1):
  Calls prog 25 #[.string s,.int .i64 d] w fun e w'=>e= .returned gotN∧Below w.heap.size w w':=by
 obtain⟨q,hq⟩:∃q,numB s 2 2=q:=⟨_,rfl⟩
 have hqb:=Jck s 2 2 (by decide);obtain⟨W2,hW2⟩:=words.nm ((w.alloc (.cells got0 96)).alloc (.cells gotM 96));have hG:GotM w w.heap.size W2:=by rw [hW2];exact GotM.start w
 have HG:=hid hG;obtain⟨g,hg⟩:=words.nm (w.heap.size);have hs2:W2.heap.size=w.heap.size+2:=by rw [hW2];simp
 unfold got0 gotM at hW2;have HW2:=hid hW2;clear hG hW2;go_enter func25,ntmps25
 go_upto_region 2 with fail
 rw [←HW2.out];rw [←hg] at HG hs2 ⊢;clear HW2 hg;have l1:¬(s.size:Int)<1:=by omega
 have l2:(0:Int)<(s.size:Int):=by omega
 have hu:(s[0].toNat:Int)<256:=by have:=s[0].toNat_lt;omega
 go_upto_region 6 with fail
 obtain⟨W3,hW3⟩:=words.nm (W2.alloc (.cells #[.int .i64 2,.bool false,.slice none 0 0,.slice none 0 0,.int .i64 0,.slice none 0 0,.string ⟨#[]⟩] 46));rw [←hW3];have hb3:Below W2.heap.size W2 W3:=words.b1 hW3;have hk3:W3.heap[W2.heap.size]?=some (.cells #[.int .i64 2,.bool false,.slice none 0 0,.slice none 0 0,.int .i64 0,.slice none 0 0,.string ⟨#[]⟩] 46 (0,0)):=by rw [hW3];exact heap_alloc_new W2 _
 rw [hs2] at hk3;replace HG:=hid (HG.out.later hb3);have HK:=hid hk3;clear hW3 hb3 hk3 hs2 hu;clear hkk;have HN1:=hid (show Calls prog 56 #[.string s,.int .i64 2,.int .i64 2] W3 _ from Jak s 2 2 W3 (by decide) (by decide));rw [hq] at HN1 hqb hno;obtain⟨hq0,hq1⟩:=hqb;have HQ:=hid hq;have HNo:=hid hno;clear hq hno;have b0:=Jaa HK.out 0;have b1:=Jaa HK.out 1;have b2:=Jaa HK.out 2;have b3:=Jaa HK.out 3;have b4:=Jaa HK.out 4;have b5:=Jaa HK.out 5;have b6:=Jaa HK.out 6;obtain⟨n0,n1,n2,n3,n4,n5,n6,n7⟩:=HG.out.nons;obtain⟨a0,a1,a2,a3,a4,a5,a6,a7⟩:=HG.out.anss;have z0:=HG.out.free 0;have z1:=HG.out.free 1;have z2:=HG.out.free 2;have z3:=HG.out.free 3;have z4:=HG.out.free 4;have z5:=HG.out.free 5;have z6:=HG.out.free 6;have z7:=HG.out.free 7;go_wp2_with fail
 refine HN1.out.mono ?_;rintro e w4 ⟨rfl,rfl⟩;clear HN1;by_cases hneg:q<0
 ·clear HNo HQ
  go_wp2_with fail
  obtain⟨Wd,hWd,hbd,hkd⟩:=HG.out.none;have p0:=Jaa hkd 0;have p1:=Jaa hkd 1;have p2:=Jaa hkd 2;have p3:=Jaa hkd 3;have p4:=Jaa hkd 4;have p5:=Jaa hkd 5;have p6:=Jaa hkd 6;have p7:=Jaa hkd 7;unfold set8 at hWd;unfold gotM at p0 p1 p2 p3 p4 p5 p6 p7;rw [←hWd];exact bodyPost_ret (v:=gotN) (by simp [results,results25,go_sem,gotN,p0,p1,p2,p3,p4,p5,p6,p7]) rfl ⟨rfl,hbd⟩
 ·have hs4:4≤s.size:=by
   rcases Nat.lt_or_ge s.size 4 with h |h
   ·have:=HQ.out;rw [Jcx (by omega)] at this;omega
   ·exact h
  have hs1:1<s.size:=by omega
  have l3:(1:Int)<(s.size:Int):=by omega
  have hu1:(1:Int)<(s[1].toNat:Int):=by
   rw [←Jns hs1];rcases HNo.out with h |h
   ·omega
   ·exact h
  have hu2:1<s[1].toNat:=by omega
  clear HNo HQ hs4;go_wp2_with fail
  obtain⟨Wd,hWd,hbd,hkd⟩:=HG.out.none;have p0:=Jaa hkd 0;have p1:=Jaa hkd 1;have p2:=Jaa hkd 2;have p3:=Jaa hkd 3;have p4:=Jaa hkd 4;have p5:=Jaa hkd 5;have p6:=Jaa hkd 6;have p7:=Jaa hkd 7;unfold set8 at hWd;unfold gotM at p0 p1 p2 p3 p4 p5 p6 p7;rw [←hWd];exact bodyPost_ret (v:=gotN) (by simp [results,results25,go_sem,gotN,p0,p1,p2,p3,p4,p5,p6,p7]) rfl ⟨rfl,hbd⟩

def Qg (W:World) (g:Nat) (vn vi:Value) (b:Nat):Prop:=g+3≤b∧b<W.heap.size∧vn.ownBlock≠some b∧vi.ownBlock≠some b
structure Dg (w W:World) (g:Nat) (O:Bool) (bn bi vn vi:Value) (N:List ByteArray) (I J:List Nd) (rs:Nat→Raw):Prop where
 m:GotM w g W
 box:W.heap[g+2]?=some (.cells #[.int .i64 2,.bool O,bn,bi,.int .i64 0,.slice none 0 0,.string ⟨#[]⟩] 46 (0,0))
 nrow:W.ownsRow (g+3) 9 1 vn N.length (N.map Value.string)
 irow:W.ownsRow (g+3) 46 7 vi I.length (rowCells I rs)
 small:∀(i:Nat) (x:ByteArray),N[i]?=some x→x.size≤140737488355328
 items:∀(i:Nat) (x:Nd),J[i]?=some x→NdIn W (Qg W g vn vi) x (rs i)
section
variable {w W W':World} {g:Nat} {O:Bool} {bn bi vn vi vn' vi':Value} {N:List ByteArray} {I J:List Nd} {rs:Nat→Raw}
theorem Dg.lt (h:Dg w W g O bn bi vn vi N I J rs):g+2<W.heap.size:=lt_of_some h.box
theorem Dg.low (h:Dg w W g O bn bi vn vi N I J rs):(∀b,b<g+3→vn.ownBlock≠some b)∧∀b,b<g+3→vi.ownBlock≠some b:=
 ⟨fun b hb e=>by have:=(h.nrow.lt b e).1;omega,fun b hb e=>by have:=(h.irow.lt b e).1;omega⟩
theorem Dg.later (h:Dg w W g O bn bi vn vi N I J rs) (hb:Below W.heap.size W W'):Dg w W' g O bn bi vn vi N I J rs:=
 ⟨h.m.later hb,(hb.block _ (lt_of_some h.box)).trans h.box,Jbs h.nrow hb,Jbs h.irow hb,h.small,fun i x hx=>(h.items i x hx).keep fun b hq=>⟨hb.block b hq.2.1,hq.1,Nat.lt_of_lt_of_le hq.2.1 hb.size,hq.2.2⟩⟩
theorem Dg.apart (h:Dg w W g O bn bi vn vi N I J rs) {b:Nat} (h1:vn.ownBlock=some b):vi.ownBlock≠some b:=by
 rcases h.nrow.2 with⟨rfl,_⟩ |⟨g1,cap,cur,rfl,_,h3,_⟩
 ·simp [Value.ownBlock] at h1
 ·have e:g1=b:=by simpa [Value.ownBlock] using h1
  subst e;exact Jap h.irow h3 (by decide)
theorem GotM.grown {row:Option Nat} (h:GotM w g W) (hg:W.grownBy W' row) (hr:∀b,b<g+3→some b≠row):GotM w g W':=
 ⟨(hg.block _ (lt_of_some h.ans) (hr _ (by omega))).trans h.ans,(hg.block _ (lt_of_some h.non) (hr _ (by omega))).trans h.non,⟨hg.os.trans h.below.os,hg.tape.trans h.below.tape,hg.output.trans h.below.output,Nat.le_trans h.below.size hg.size,fun k hk=>(hg.block k (Nat.lt_of_lt_of_le hk h.below.size) (hr k (by have:=h.size;omega))).trans (h.below.block k hk)⟩,h.size⟩
theorem Dg.nstay (h:Dg w W g O bn bi vn vi N I J rs) (hg:W.grownBy W' vn.ownBlock):W'.heap[g+2]?=some (.cells #[.int .i64 2,.bool O,bn,bi,.int .i64 0,.slice none 0 0,.string ⟨#[]⟩] 46 (0,0)):=
 (hg.block _ (lt_of_some h.box) (h.low.1 _ (by omega)).symm).trans h.box
theorem Dg.names (h:Dg w W g O bn bi vn vi N I J rs) {x:ByteArray} (hx:x.size≤140737488355328) (hown:W'.ownsRow (g+3) 9 1 vn' (N.length+1) (N.map Value.string++[.string x])) (hg:W.grownBy W' vn.ownBlock)
  (hat:vn.ownBlock=vn'.ownBlock∨vn'.ownBlock=some W.heap.size):Dg w W' g O bn bi vn' vi (N++[x]) I J rs:=by
 refine⟨h.m.grown hg fun b hb=>(h.low.1 b hb).symm,h.nstay hg,?_,Jdz h.irow hg fun b hb e=>h.apart e.symm hb,fun i y hy=>?_,fun i y hy=>?_⟩
 ·rw [List.length_append,List.map_append]
  exact hown
 ·rcases Nat.lt_or_ge i N.length with hi |hi
  ·rw [List.getElem?_append_left hi] at hy
   exact h.small i y hy
  ·rw [List.getElem?_append_right hi] at hy
   rw [←List.mem_singleton.1 (List.mem_of_getElem? hy)] at hx;exact hx
 ·refine (h.items i y hy).keep fun b hq=>?_
  have e:=hg.block b hq.2.1 fun e=>hq.2.2.1 e.symm;refine⟨e,hq.1,Nat.lt_of_lt_of_le hq.2.1 hg.size,fun e2=>?_,hq.2.2.2⟩;rcases hat with hat |hat
  ·exact hq.2.2.1 (hat.trans e2)
  ·rw [hat] at e2
   injection e2 with e2;have:=hq.2.1;omega
theorem Dg.entry (h:Dg w W g O bn bi vn vi N I J rs) {y:Nd} (hown:W'.ownsRow (g+3) 46 7 vi' (I.length+1) (rowCells (I++[y]) rs)) (hg:W.grownBy W' vi.ownBlock)
  (hat:vi.ownBlock=vi'.ownBlock∨vi'.ownBlock=some W.heap.size):Dg w W' g O bn bi vn vi' N (I++[y]) J rs:=by
 refine⟨h.m.grown hg fun b hb=>(h.low.2 b hb).symm,(hg.block _ (lt_of_some h.box) (h.low.2 _ (by omega)).symm).trans h.box,Jdz h.nrow hg fun b hb e=>h.apart hb e.symm,?_,h.small,fun i x hx=>?_⟩
 ·rw [List.length_append]
  exact hown
 ·refine (h.items i x hx).keep fun b hq=>?_
  have e:=hg.block b hq.2.1 fun e=>hq.2.2.2 e.symm;refine⟨e,hq.1,Nat.lt_of_lt_of_le hq.2.1 hg.size,hq.2.2.1,fun e2=>?_⟩;rcases hat with hat |hat
  ·exact hq.2.2.2 (hat.trans e2)
  ·rw [hat] at e2
   injection e2 with e2;have:=hq.2.1;omega
theorem Dg.set (h:Dg w W g O bn bi vn vi N I J rs) (j:Nat) (u:Value) {O':Bool} {bn' bi':Value} (hc:(#[.int .i64 2,.bool O,bn,bi,.int .i64 0,.slice none 0 0,.string ⟨#[]⟩]:Array Value).setIfInBounds j u=#[.int .i64 2,.bool O',bn',bi',.int .i64 0,.slice none 0 0,.string ⟨#[]⟩]):
  Dg w (W.setCell ⟨g+2,j,none⟩ u) g O' bn' bi' vn vi N I J rs:=by
 have hsz:=h.m.size;refine⟨⟨by rw [heap_setCell_other _ _ _ _ (by show g≠g+2;omega)];exact h.m.ans,by rw [heap_setCell_other _ _ _ _ (by show g+1≠g+2;omega)];exact h.m.non,h.m.below.setCell (p:=⟨g+2,j,none⟩) (by show w.heap.size≤g+2;omega) _,hsz⟩,?_,Jad (p:=⟨g+2,j,none⟩) h.nrow (h.low.1 _ (by show g+2<g+3;omega)) u,Jad (p:=⟨g+2,j,none⟩) h.irow (h.low.2 _ (by show g+2<g+3;omega)) u,h.small,fun i x hx=>?_⟩
 ·rw [heap_setCell_same W (g+2) j _ _ u h.box,hc]
 ·refine (h.items i x hx).keep fun b hq=>?_
  have hne:b≠g+2:=by have:=hq.1;omega
  exact⟨Below.heap_setCell W ⟨g+2,j,none⟩ u b hne,hq.1,by have:=hq.2.1;simpa [World.setCell] using this,hq.2.2⟩
theorem Dg.pend {W0:World} (h:Dg w W g O bn bi vn vi N I I rs) (h0:Dg w W0 g O bn bi vn vi N I I rs) {y:Nd} {r:Raw} (hy:NdIn W (fun b=>W0.heap.size≤b∧b<W.heap.size) y r):Dg w W g O bn bi vn vi N I (I++[y]) (rsPut rs I.length r):=by
 refine⟨h.m,h.box,h.nrow,?_,h.small,fun i x hx=>?_⟩
 ·rw [Jcd (rs':=rs) fun i hi=>by unfold rsPut;rw [if_neg (by omega)]]
  exact h.irow
 ·rcases Nat.lt_or_ge i I.length with hi |hi
  ·rw [List.getElem?_append_left hi] at hx
   have:=h.items i x hx;unfold rsPut;rw [if_neg (by omega)];exact this
  ·have hi2:i=I.length:=by
    have:=(List.getElem?_eq_some_iff.1 hx).1;simp at this;omega
   subst hi2;rw [List.getElem?_append_right (Nat.le_refl _),Nat.sub_self] at hx;have e:y=x:=by simpa using hx
   subst e;unfold rsPut;rw [if_pos rfl];refine hy.keep fun b hb=>⟨rfl,by have:=h0.lt;omega,hb.2,fun e=>?_,fun e=>?_⟩
   ·have:=(h0.nrow.lt b e).2
    omega
   ·have:=(h0.irow.lt b e).2
    omega
theorem Dg.node {An Ai:Option Addr} {cn ci:Nat} {w':World} (h:Dg w W g O bn bi (.slice An N.length cn) (.slice Ai I.length ci) N I I rs) (hl:N.length≤100000∧I.length≤100000) (hk:∀b,g+3≤b→b<W.heap.size→w'.heap[b]?=W.heap[b]?) (hs:W.heap.size≤w'.heap.size):
  NdIn w' (Fresh w w') (.mk 2 O N I 0 [] ⟨#[]⟩) ⟨An,cn,Ai,ci,none,0⟩:=by
 have hsz:=h.m.size;obtain⟨An',cn',en,hcn,hzn⟩:=own_facts h.nrow;obtain⟨Ai',ci',ei,hci,hzi⟩:=own_facts h.irow;injection en with e1 _ e2;injection ei with e3 _ e4;subst e1 e2 e3 e4;have hq:∀b,g+3≤b∧b<W.heap.size→w'.heap[b]?=W.heap[b]?∧Fresh w w' b:=fun b hb=>⟨hk b hb.1 hb.2,by omega,by omega⟩
 refine .mk rs ⟨show (-9223372036854775808:Int)≤2 by decide,show (2:Int)≤9223372036854775807 by decide,show (-9223372036854775808:Int)≤0 by decide,show (0:Int)≤9223372036854775807 by decide,show 0≤140737488355328 by decide,by show N.length*16≤140737488355328;omega,by show I.length*112≤140737488355328;omega,show 0*24≤140737488355328 by decide,hcn,hci,Nat.le_refl _,hzn,hzi,fun _=>⟨rfl,rfl⟩⟩ ?_ (fun _ _ hx=>(Jba hx).elim) ?_ ?_
 ·exact (Jwu h.nrow h.small).keep hq
 ·intro i x hx
  have hx':I[i]?=some x:=hx;have h00:=Ja2 (rs:=rs) hx' 0 _ (show (rawCells x (rs i))[0]?=some _ from rfl);obtain⟨b,cur,hA,hB,hlt,_,_⟩:=own_cell h.irow h00;refine⟨b,0,hA,(hq b ⟨hB,hlt⟩).2,fun j v hj=>?_⟩;have h7:=Ja2 (rs:=rs) hx' j v hj;obtain⟨b',_,hA',_,_,_,hc⟩:=own_cell h.irow h7;rw [hA] at hA';injection hA' with hA';injection hA' with hA';subst hA';rw [Nat.zero_add];exact (World.cell?_of_block (hk b hB hlt)).trans hc
 ·intro i x hx
  exact (h.items i x hx).keep fun b hb=>hq b ⟨hb.1,hb.2.1⟩
end
end Go.Proofs.YtekekhgjobahaaaGreatDoor.ima
