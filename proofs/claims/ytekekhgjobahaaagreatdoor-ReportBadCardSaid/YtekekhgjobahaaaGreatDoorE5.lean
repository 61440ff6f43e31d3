import Derived.Test.YtekekhgjobahaaaGreatDoorE4
set_option maxHeartbeats 6400000
set_option maxRecDepth 100000
open Go.Lib (hid)
open Go.Proofs.Tryz
namespace Go.Proofs.YtekekhgjobahaaaGreatDoor.ima
open Go.RowKit words ext name tre

theorem Jtp {w:World} {B n c:Nat} {A:Option Addr} {N:List ByteArray} (h:w.ownsRow B 9 1 (.slice A n c) n (N.map Value.string)) (hs:∀(i:Nat) (x:ByteArray),N[i]?=some x→x.size≤140737488355328):TxtIn w (Qz w B) A N:=fun i x hx=>by
 obtain⟨g,cur,h1,h2,h3,h4,h5⟩:=own_cell h (j:=i) (u:= .string x) (by rw [List.getElem?_map,hx];rfl);exact⟨⟨g,0,h1,⟨h2,cur,_,h4,by decide⟩,by rw [Nat.zero_add];exact h5⟩,hs i x hx⟩
theorem Jve {w:World} {B n c:Nat} {A:Option Addr} {L:List Ex} (h:w.ownsRow B 131 2 (.slice A n c) n (exCells L)) (hs:∀(i:Nat) (x:Ex),L[i]?=some x→ -9223372036854775808≤x.O∧x.O≤9223372036854775807∧x.D.size≤140737488355328):ExtIn w (Qz w B) A L:=fun i x hx=>by
 obtain⟨e0,e1⟩:=Jb7 hx;obtain⟨g,cur,h1,h2,h3,h4,h5⟩:=own_cell h e0;obtain⟨g',_,h1',_,_,_,h5'⟩:=own_cell h e1;rw [h1] at h1';injection h1' with h1';injection h1' with h1';subst h1';exact⟨⟨g,0,h1,⟨h2,cur,_,h4,by decide⟩,by rw [Nat.zero_add];exact h5,by rw [Nat.zero_add];exact h5'⟩,hs i x hx⟩
theorem Fst.done {W w:World} {B g h gn:Nat} {K:Int} {S:Nat} {E:List Ex} {Ae:Option Addr} {ce:Nat} {l:List UInt8} {c:Int} {f:Bool} (hs:Fst W w B g h gn K (S:Int) E Ae ce l c f) (hK:0≤K∧K<4294967296) (hS:S<4294967296) (hE:E.length≤600000):
  NdIn w (Qz w W.heap.size) (fileN K S E) ⟨none,0,none,0,Ae,ce⟩:=by
 obtain⟨A',c',hv,h1,h2⟩:=own_facts hs.row;injection hv with e1 e2 e3;subst e1 e3;exact .mk (fun _=>raw0) ⟨show -9223372036854775808≤K by omega,show K≤9223372036854775807 by omega,show (-9223372036854775808:Int)≤(S:Int) by omega,show (S:Int)≤9223372036854775807 by omega,show (⟨#[]⟩:ByteArray).size≤140737488355328 by decide,
   show 0*16≤140737488355328 by decide,show 0*112≤140737488355328 by decide,show E.length*24≤140737488355328 by omega,Nat.le_refl 0,Nat.le_refl 0,h1,fun _=>⟨rfl,rfl⟩,fun _=>⟨rfl,rfl⟩,h2⟩
   (fun _ _ hx=>(Jba hx).elim) (Jve hs.row hs.ins) (fun _ _ hx=>(Jba hx).elim) (fun _ _ hx=>(Jba hx).elim)
theorem Dm.done {W w:World} {B g h gn:Nat} {K:Int} {O:Bool} {N:List ByteArray} {I:List Nd} {rs:Nat→Raw} {An Ai:Option Addr} {cn ci:Nat} {l:List UInt8} {c:Int} {f:Bool}
  (hd:Dm W w B g h gn (dN K O N I) ⟨An,cn,Ai,ci,none,0⟩ (.slice An N.length cn) (.slice Ai I.length ci) N I I rs l c f) (hK:0≤K∧K<4294967296) (hN:N.length<4294967296) (hI:I.length<4294967296):
  NdIn w (Qz w W.heap.size) (dN K O N I) ⟨An,cn,Ai,ci,none,0⟩:=by
 obtain⟨A',c',hv,n1,n2⟩:=own_facts hd.nrow;injection hv with e1 e2 e3;subst e1 e3;obtain⟨A',c',hv,i1,i2⟩:=own_facts hd.irow;injection hv with e1 e2 e3;subst e1 e3;refine .mk rs ⟨show -9223372036854775808≤K by omega,show K≤9223372036854775807 by omega,show (-9223372036854775808:Int)≤0 by decide,show (0:Int)≤9223372036854775807 by decide,show (⟨#[]⟩:ByteArray).size≤140737488355328 by decide,
   show N.length*16≤140737488355328 by omega,show I.length*112≤140737488355328 by omega,show 0*24≤140737488355328 by decide,n1,i1,Nat.le_refl 0,n2,i2,fun _=>⟨rfl,rfl⟩⟩
   (Jtp hd.nrow hd.small) (fun _ _ hx=>(Jba hx).elim) (fun i x hx=>?_) (fun i x hx=>(hd.items i x hx).keep fun b hb=>⟨rfl,hb.1⟩)
 have h0:=Ja2 (rs:=rs) hx 0 _ rfl;obtain⟨g,cur,g1,g2,g3,g4,g5⟩:=own_cell hd.irow h0;refine⟨g,0,g1,⟨g2,cur,_,g4,by decide⟩,fun j v hj=>?_⟩;obtain⟨g',_,g1',_,_,_,g5'⟩:=own_cell hd.irow (Ja2 (rs:=rs) hx j v hj);rw [g1] at g1';injection g1' with g1';injection g1' with g1';subst g1';rw [show 0+i*7+j=i*7+j by omega];exact g5'
theorem Jk0 {w:World} {P:Nat→Prop} (K:Int) (T:ByteArray) (hK:0≤K∧K<4294967296) (hT:T.size≤140737488355328):NdIn w P (.mk K false [] [] 0 [] T) raw0:=
 .mk (fun _=>raw0) ⟨show -9223372036854775808≤K by omega,show K≤9223372036854775807 by omega,show (-9223372036854775808:Int)≤0 by decide,show (0:Int)≤9223372036854775807 by decide,hT,
   show 0*16≤140737488355328 by decide,show 0*112≤140737488355328 by decide,show 0*24≤140737488355328 by decide,Nat.le_refl 0,Nat.le_refl 0,Nat.le_refl 0,fun _=>⟨rfl,rfl⟩,fun _=>⟨rfl,rfl⟩,fun _=>⟨rfl,rfl⟩⟩
   (fun _ _ hx=>(Jba hx).elim) (fun _ _ hx=>(Jba hx).elim) (fun _ _ hx=>(Jba hx).elim) (fun _ _ hx=>(Jba hx).elim)
theorem Rr.count {w:World} {B g h:Nat} {l:List UInt8} {c:Int} {f:Bool} (hr:Rr w B g h l c f) (c':Int):Rr (w.setCell ⟨g,1,none⟩ (.int .i64 c')) B g h l c' f∧words.Kept Rz B w (w.setCell ⟨g,1,none⟩ (.int .i64 c')):=by
 obtain⟨h1,h2,h3,s,h4,h5,h6⟩:=hr;have hne:h≠g:=Jas h6 h3 (by decide);exact⟨⟨h1,h2,heap_setCell_same w g 1 _ _ (.int .i64 c') h3,s,h4,h5,(Below.heap_setCell w ⟨g,1,none⟩ _ h hne).trans h6⟩,(words.Kept.refl Rz B w).setCell (p:=⟨g,1,none⟩) h1 ⟨_,_,_,h3,.inr rfl⟩ _⟩
theorem Jed {S:TypeId→Prop} {B R:Nat} {a:World} (hR:a.heap.size≤R):∀(vs:List Value) (o:Nat) (w:World),words.Kept S B a w→words.Kept S B a (w.setCells R o vs)
 |[],_,_,h=>h
 |v::r,o,w,h=>by
  rw [World.setCells];exact Jed hR r (o+1) _ (Ja4 (p:=⟨R,o,none⟩) h hR v)
theorem Jc0 {w wr:World} {B g h:Nat} {l:List UInt8} {c:Int} {f:Bool} {n m:Nd} {r q:Raw} (hb:Box wr w.heap.size m q) (hr:Rr wr B g h l c f) (hk:words.Kept Rz B w wr) (hn:NdIn wr (Qz wr (w.heap.size+1)) n r):
  NdIn (wr.setCells w.heap.size 0 (rawCells n r).toList) (Qz (wr.setCells w.heap.size 0 (rawCells n r).toList) w.heap.size) n r∧Rr (wr.setCells w.heap.size 0 (rawCells n r).toList) B g h l c f∧words.Kept Rz B w (wr.setCells w.heap.size 0 (rawCells n r).toList)∧
   Box (wr.setCells w.heap.size 0 (rawCells n r).toList) w.heap.size n r:=by
 have hs:=hk.size;have hlt:=hb.lt;refine⟨hn.keep fun b hq=>?_,?_,Jed (Nat.le_refl _) _ 0 wr hk,hb.over⟩
 ·have e:=World.heap_setCells_other wr w.heap.size 0 (rawCells n r).toList hq.lt (by have:=hq.1;omega)
  exact⟨e,(hq.same e).less (by omega)⟩
 ·obtain⟨h1,h2,h3,s,h4,h5,h6⟩:=hr
  exact⟨h1,h2,(World.heap_setCells_other wr w.heap.size 0 _ (lt_of_some h3) (Jas h3 hb (by decide))).trans h3,s,h4,h5,(World.heap_setCells_other wr w.heap.size 0 _ (lt_of_some h6) (Jas h6 hb (by decide))).trans h6⟩
theorem Jtx {w w':World} {B g:Nat} {n:Nd} {r:Raw} (h:Box w g n r) (hk:words.Kept Rz B w w'):Box w' g n r:=hk.blk h (by decide)
theorem Jm2 {P:PN} (hP:∀c l x l' c',P c l=some (x,l',c')→c≤c'):∀{k c:Nat} {l:List UInt8} {N:List ByteArray} {I:List Nd} {l':List UInt8} {c':Nat},itP P k c l=some (N,I,l',c')→c≤c'
 |0,c,l,N,I,l',c',h=>by
  rw [itP] at h;injection h with h;injection h with h2 h3;injection h3 with h3 h4;injection h4 with h4 h5;omega
 |k+1,c,l,N,I,l',c',h=>by
  rcases h1:textP 1 l with _ |⟨s,l1⟩
  ·rw [itP,h1] at h;cases h
  rcases h2:P c l1 with _ |⟨x,l2,c2⟩
  ·rw [itP,h1] at h
   change (match P c l1 with |none=>none |some (x,l2,c2)=>_)=_ at h;rw [h2] at h;cases h
  rw [Jhz h1 h2] at h;rcases h3:itP P k c2 l2 with _ |⟨N',I',l3,c3⟩
  ·rw [h3] at h;cases h
  rw [h3] at h;injection h with h;injection h with h4 h5;injection h5 with h5 h6;injection h6 with h6 h7;have:=Jm2 hP h3;have:=hP _ _ _ _ _ h2;omega
theorem Jjo {P:PN} (hP:∀c l x l' c',P c l=some (x,l',c')→c≤c') {c:Nat} {l:List UInt8} {O:Bool} {N:List ByteArray} {I:List Nd} {l':List UInt8} {c':Nat} (h:dirP P c l=some (O,N,I,l',c')):c≤c':=by
 unfold dirP at h;rcases h1:takeP 1 l with _ |⟨o,l1⟩
 ·rw [h1] at h;cases h
 rw [h1] at h;change (if 1<o then none else match takeP 2 l1 with |none=>none |some (k,l2)=>match itP P k c l2 with |none=>none |some (N,I,l3,c3)=>some (decide (o=1),N,I,l3,c3))=_ at h;split at h
 ·cases h
 rcases h2:takeP 2 l1 with _ |⟨k,l2⟩
 ·rw [h2] at h;cases h
 rw [h2] at h;change (match itP P k c l2 with |none=>none |some (N,I,l3,c3)=>some (decide (o=1),N,I,l3,c3))=_ at h;rcases h3:itP P k c l2 with _ |⟨N',I',l3,c3⟩
 ·rw [h3] at h;cases h
 rw [h3] at h;injection h with h;injection h with h4 h5;injection h5 with h5 h6;injection h6 with h6 h7;injection h7 with h7 h8;have:=Jm2 hP h3;omega
theorem Jht:∀(f:Nat) (c:Nat) (l:List UInt8) (x:Nd) (l':List UInt8) (c':Nat),nodeP f c l=some (x,l',c')→c≤c'
 |0,c,l,x,l',c',h=>by rw [nodeP] at h;cases h
 |f+1,c,l,x,l',c',h=>by
  rw [Jbl] at h;split at h
  ·cases h
  rcases h1:takeP 1 l with _ |⟨k,l1⟩
  ·rw [h1] at h;cases h
  rw [h1] at h;change (if k=1 then (match fileP l1 with |none=>none |some (s,E,l2)=>some (Nd.mk 1 false [] [] (s:Int) E ⟨#[]⟩,l2,c+1)) else if k=2 then (match dirP (nodeP f) (c+1) l1 with |none=>none |some (o,N,I,l2,c2)=>some (Nd.mk 2 o N I 0 [] ⟨#[]⟩,l2,c2)) else if k=3 then (match textP 2 l1 with |none=>none |some (t,l2)=>some (Nd.mk 3 false [] [] 0 [] (mkB t),l2,c+1)) else some (Nd.mk (k:Int) false [] [] 0 [] ⟨#[]⟩,l1,c+1))=_ at h;split at h
  ·rcases h2:fileP l1 with _ |⟨s,E,l2⟩
   ·rw [h2] at h;cases h
   rw [h2] at h;injection h with h;injection h with h4 h5;injection h5 with h5 h6;omega
  split at h
  ·rcases h2:dirP (nodeP f) (c+1) l1 with _ |⟨O,N,I,l2,c2⟩
   ·rw [h2] at h;cases h
   rw [h2] at h;injection h with h;injection h with h4 h5;injection h5 with h5 h6;have:=Jjo (Jht f) h2;omega
  split at h
  ·rcases h2:textP 2 l1 with _ |⟨t,l2⟩
   ·rw [h2] at h;cases h
   rw [h2] at h;injection h with h;injection h with h4 h5;injection h5 with h5 h6;omega
  ·injection h with h
   injection h with h4 h5;injection h5 with h5 h6;omega
theorem Jtk {fu c:Nat} {l:List UInt8} {O:Bool} {N:List ByteArray} {I:List Nd} {l':List UInt8} {c':Nat} (h:dirP (nodeP fu) (c+1) l=some (O,N,I,l',c')):c<c':=Jjo (Jht fu) h
section
variable {fu c:Nat} {l l1:List UInt8}
theorem Jwl (hc:4096<c+1):nodeP (fu+1) c l=none:=by rw [Jbl,if_pos hc]
theorem Jiv (h:takeP 1 l=none):nodeP (fu+1) c l=none:=by
 rw [Jbl];split
 ·rfl
 ·rw [h]
theorem np_1 (hc:c+1≤4096) (h:takeP 1 l=some (1,l1)):nodeP (fu+1) c l=match fileP l1 with |none=>none |some (s,E,l2)=>some (.mk 1 false [] [] (s:Int) E ⟨#[]⟩,l2,c+1):=by
 rw [Jbl,if_neg (by omega),h];rfl
theorem np_2 (hc:c+1≤4096) (h:takeP 1 l=some (2,l1)):nodeP (fu+1) c l=match dirP (nodeP fu) (c+1) l1 with |none=>none |some (o,N,I,l2,c2)=>some (.mk 2 o N I 0 [] ⟨#[]⟩,l2,c2):=by
 rw [Jbl,if_neg (by omega),h];rfl
theorem np_3 (hc:c+1≤4096) (h:takeP 1 l=some (3,l1)):nodeP (fu+1) c l=match textP 2 l1 with |none=>none |some (t,l2)=>some (.mk 3 false [] [] 0 [] (mkB t),l2,c+1):=by
 rw [Jbl,if_neg (by omega),h];rfl
theorem np_4 {k:Nat} (hc:c+1≤4096) (h:takeP 1 l=some (k,l1)) (h1:k≠1) (h2:k≠2) (h3:k≠3):nodeP (fu+1) c l=some (.mk (k:Int) false [] [] 0 [] ⟨#[]⟩,l1,c+1):=by
 rw [Jbl,if_neg (by omega),h];show (if k=1 then _ else if k=2 then _ else if k=3 then _ else _)=_;rw [if_neg h1,if_neg h2,if_neg h3]
end
theorem inode:∀(fu B g h:Nat) (l:List UInt8) (c:Nat) (f:Bool) (w:World),Rr w B g h l (c:Int) f→c≤4096→4097≤fu+c→l.length≤4194304→
  Calls prog 115 #[.pointer (some ⟨g,0,none⟩)] w (Noded fu B g h l c f w):=by
 intro fu
 induction fu with
 |zero=>intro B g h l c f w _ hc hfu;omega
 |succ fu ih=>
  intro B g h l c f w hr hc hfu hll;obtain⟨W1,hW1⟩:=words.nm (w.alloc (.cells (rawCells nd0 raw0) 46));have hb1:=words.b1 hW1;have hX1:Box W1 w.heap.size nd0 raw0:=by rw [hW1];exact Box.new w nd0 raw0
  have hz1:W1.heap.size=w.heap.size+1:=by rw [hW1];simp
  have hr1:Rr W1 B g h l (c:Int) f:=hr.frame hb1.block;have hk1:words.Kept Rz B w W1:=words.Kept.of_below hb1 _ _;obtain⟨W2,hW2⟩:=words.nm (W1.setCell ⟨g,1,none⟩ (.int .i64 ((c:Int)+1)));have hr2:Rr W2 B g h l ((c+1:Nat):Int) f:=by
   have:=(hr1.count ((c:Int)+1)).1;rw [←hW2] at this;exact_mod_cast this
  have hk12:words.Kept Rz B W1 W2:=by rw [hW2];exact (hr1.count _).2
  have hX2:Box W2 w.heap.size nd0 raw0:=hk12.blk hX1 (by decide);obtain⟨c0,c1,c2,f2,f1⟩:=hr1.cells;have hW1':W1=w.alloc (.cells #[.int .i64 0,.bool false,.slice none 0 0,.slice none 0 0,.int .i64 0,.slice none 0 0,.string ⟨#[]⟩] 46):=hW1;have HW1:=hid hW1';have HW2:=hid hW2;have HR2:=hid hr2;have HX2:=hid hX2;have HX1:=hid hX1;have HK:=hid (And.intro hk1 hk12);have HZ:=hid hz1;have IH:=hid ih;clear hr hb1 hX1 hr1 hk1 hW1 hW1' hW2 hr2 hk12 hX2 hz1 ih;have wc: -9223372036854775808≤(c:Int)+1∧(c:Int)+1≤9223372036854775807:=by omega
  go_enter func115,ntmps115
  go_upto_region 1 with fail
  rw [←HW1.out];go_upto_region 2 with fail
  rw [←HW2.out];clear c0 c1 c2 f1 f2;obtain⟨c0,c1,c2,f2,f1⟩:=HR2.out.cells;by_cases hfull:4096<c+1
  ·have g1:(4096:Int)<(c:Int)+1:=by omega
   obtain⟨W3,hW3⟩:=words.nm (W2.setCell ⟨g,2,none⟩ (.bool true));have hr3:=(HR2.out.fail true).1;have hk23:=(HR2.out.fail true).2;rw [←hW3] at hr3 hk23;have hX3:Box W3 w.heap.size nd0 raw0:=hk23.blk HX2.out (by decide);have hk3:words.Kept Rz B w W3:=(HK.out.1.trans HK.out.2).trans hk23;have hn3:NdIn W3 (Qz W3 (w.heap.size+1)) nd0 raw0:=Jk0 0 ⟨#[]⟩ (by decide) (by decide);have HW3:=hid hW3;have HF:=hid hfull;clear hW3 hk23 hfull;go_upto_region 4 with fail
   rw [←HW3.out];clear c0 c1 c2 f1 f2;have hd:=Jc0 hX3 hr3 hk3 hn3;have z0:=Jab hX3 0;have z1:=Jab hX3 1;have z2:=Jab hX3 2;have z3:=Jab hX3 3;have z4:=Jab hX3 4;have z5:=Jab hX3 5;have z6:=Jab hX3 6;obtain⟨y0,y1,y2,y3,y4,y5,y6⟩:=Box.cells hX3;obtain⟨Wd,hWd⟩:=words.nm (W3.setCells w.heap.size 0 (rawCells nd0 raw0).toList);rw [←hWd] at hd;obtain⟨d1,d2,d3,d4⟩:=hd;obtain⟨p0,p1,p2,p3,p4,p5,p6⟩:=d4.cells;have hWd':((((((W3.setCell ⟨w.heap.size,0,none⟩ (.int .i64 0)).setCell ⟨w.heap.size,1,none⟩ (.bool false)).setCell ⟨w.heap.size,2,none⟩ (.slice none 0 0)).setCell ⟨w.heap.size,3,none⟩ (.slice none 0 0)).setCell ⟨w.heap.size,4,none⟩ (.int .i64 0)).setCell ⟨w.heap.size,5,none⟩ (.slice none 0 0)).setCell ⟨w.heap.size,6,none⟩ (.string ⟨#[]⟩)=Wd:=by rw [hWd];rfl
   have HWd:=hid hWd';have HD:=hid (And.intro d1 (And.intro d2 d3));clear hWd hWd' d1 d2 d3 d4 hX3 hr3 hk3 hn3;go_wp2_with fail
   rw [HWd.out];exact bodyPost_ret (v:=ndV nd0 raw0) (by unfold ndV rawCells;simp [results,results115,go_sem,p0,p1,p2,p3,p4,p5,p6]) rfl ⟨nd0,raw0,l,c+1,true,rfl,HD.out.1,HD.out.2.1,HD.out.2.2,Nat.le_refl _,by omega,(fun h=>by cases h),fun _ _=>Jwl HF.out⟩
  have g1:¬(4096:Int)<(c:Int)+1:=by omega
  have HT:=hid (itake 1 B g h l ((c+1:Nat):Int) f W2 HR2.out (by decide) (by decide));have hle:c+1≤4096:=by omega
  clear hfull;go_wp2_with fail
  refine HT.out.mono ?_;rintro e w3 ht;clear c0 c1 c2 f1 f2;obtain⟨v,l1,f1,rfl,hv,hr3,hk3,q1,a1,b1⟩:=ht.one (by decide);obtain⟨W4,hW4⟩:=words.nm (w3.alloc (.cells (rawCells (dN (v:Int) false [] []) raw0) 46));have hb4:Below w3.heap.size w3 W4:=words.b1 hW4;have hr4:Rr W4 B g h l1 ((c+1:Nat):Int) f1:=hr3.frame hb4.block;have hk04:words.Kept Rz B w W4:=((HK.out.1.trans HK.out.2).trans hk3).trans (words.Kept.of_below hb4 _ _);have hk14:words.Kept Rz B W1 W4:=(HK.out.2.trans hk3).trans (words.Kept.of_below hb4 _ _);have hX4:Box W4 w.heap.size nd0 raw0:=(Jtx HX2.out hk3).below hb4;have hB4:Box W4 w3.heap.size (dN (v:Int) false [] []) raw0:=by rw [hW4];exact Box.new w3 _ _
  have hW4':W4=w3.alloc (.cells #[.int .i64 (v:Int),.bool false,.slice none 0 0,.slice none 0 0,.int .i64 0,.slice none 0 0,.string ⟨#[]⟩] 46):=hW4;have hge:W1.heap.size≤w3.heap.size:=Nat.le_trans HK.out.2.size hk3.size;have HW4:=hid hW4';have HR4:=hid hr4;have HX4:=hid hX4;have HB4:=hid hB4;have HK4:=hid (And.intro hk04 hk14);have HA1:=hid (And.intro (fun h=>(a1 h).2.1) (And.intro (fun h=>(a1 h).1) b1));have e0:W4.cell? ⟨w3.heap.size,0,none⟩=some (.int .i64 (v:Int)):=hB4.cells.1;clear ht hr3 hk3 hW4 hW4' hb4 hr4 hk04 hk14 hX4 hB4 a1 b1 HT HR2 HX2 HW1 HW2;go_upto_region 6 with fail
  rw [←HW4.out];by_cases hv1:v=1
  ·subst hv1
   have HF:=hid (ifile W1 B g h w3.heap.size 1 l1 ((c+1:Nat):Int) f1 W4 ⟨HR4.out,HK4.out.2,HB4.out,World.ownsRow_nil _ _ _ _,fun _ _ hx=>(Jba hx).elim⟩ hge (by omega));have e0':W4.cell? ⟨w3.heap.size,0,none⟩=some (.int .i64 1):=e0;clear e0;go_wp2_with fail
   refine HF.out.mono ?_;rintro e w5 ⟨⟨u,rfl⟩,S,E,Ae,ce,l',f',hS,hE,q2,hst,a2,b2⟩;clear e0';have hn5:=hst.done (by decide) hS hE;rw [HZ.out] at hn5;have hX5:Box w5 w.heap.size nd0 raw0:=hst.kp.blk HX1.out (by decide);have hk5:words.Kept Rz B w w5:=HK.out.1.trans hst.kp;have hr5:=hst.rr;have i0:w5.cell? ⟨w3.heap.size,0,none⟩=some (.int .i64 1):=hst.box.cells.1;have i1:w5.cell? ⟨w3.heap.size,1,none⟩=some (.bool false):=hst.box.cells.2.1;have i2:w5.cell? ⟨w3.heap.size,2,none⟩=some (.slice none 0 0):=hst.box.cells.2.2.1;have i3:w5.cell? ⟨w3.heap.size,3,none⟩=some (.slice none 0 0):=hst.box.cells.2.2.2.1;have i4:w5.cell? ⟨w3.heap.size,4,none⟩=some (.int .i64 (S:Int)):=hst.box.cells.2.2.2.2.1;have i5:w5.cell? ⟨w3.heap.size,5,none⟩=some (.slice Ae E.length ce):=hst.box.cells.2.2.2.2.2.1;have i6:w5.cell? ⟨w3.heap.size,6,none⟩=some (.string ⟨#[]⟩):=hst.box.cells.2.2.2.2.2.2;have HA2:=hid (And.intro a2 b2);clear hst a2 b2 HF HB4 HX4 HR4;have hd:=Jc0 hX5 hr5 hk5 hn5;have z0:=Jab hX5 0;have z1:=Jab hX5 1;have z2:=Jab hX5 2;have z3:=Jab hX5 3;have z4:=Jab hX5 4;have z5:=Jab hX5 5;have z6:=Jab hX5 6;obtain⟨y0,y1,y2,y3,y4,y5,y6⟩:=Box.cells hX5;obtain⟨Wd,hWd⟩:=words.nm (w5.setCells w.heap.size 0 (rawCells (fileN 1 (S:Int) E) ⟨none,0,none,0,Ae,ce⟩).toList);rw [←hWd] at hd;obtain⟨d1,d2,d3,d4⟩:=hd;obtain⟨p0,p1,p2,p3,p4,p5,p6⟩:=d4.cells;have hWd':((((((w5.setCell ⟨w.heap.size,0,none⟩ (.int .i64 1)).setCell ⟨w.heap.size,1,none⟩ (.bool false)).setCell ⟨w.heap.size,2,none⟩ (.slice none 0 0)).setCell ⟨w.heap.size,3,none⟩ (.slice none 0 0)).setCell ⟨w.heap.size,4,none⟩ (.int .i64 (S:Int))).setCell ⟨w.heap.size,5,none⟩ (.slice Ae E.length ce)).setCell ⟨w.heap.size,6,none⟩ (.string ⟨#[]⟩)=Wd:=by rw [hWd];rfl
   have HWd:=hid hWd';have HD:=hid (And.intro d1 (And.intro d2 d3));clear hWd hWd' d1 d2 d3 d4 hX5 hr5 hk5 hn5;go_wp2_with fail
   rw [HWd.out];exact bodyPost_ret (v:=ndV (fileN 1 (S:Int) E) ⟨none,0,none,0,Ae,ce⟩) (by unfold ndV rawCells;simp [results,results115,go_sem,p0,p1,p2,p3,p4,p5,p6]) rfl ⟨fileN 1 (S:Int) E,_,l',c+1,f',rfl,HD.out.1,HD.out.2.1,HD.out.2.2,by omega,by omega,fun h=>⟨hle,Nat.lt_succ_self _,HA1.out.2.1 (HA2.out.1 h).1,by rw [np_1 hle (HA1.out.1 (HA2.out.1 h).1),(HA2.out.1 h).2];rfl⟩,fun h1 h2=>by
           rcases f1 with _ |_
           ·rw [np_1 hle (HA1.out.1 rfl),HA2.out.2 rfl h2]
           ·exact Jiv (HA1.out.2.2 h1 rfl)⟩
  by_cases hv2:v=2
  ·subst hv2
   have hDm:Dm W1 W4 B g h w3.heap.size (dN 2 false [] []) raw0 (.slice none 0 0) (.slice none 0 0) [] [] [] (fun _=>raw0) l1 ((c+1:Nat):Int) f1:=
    ⟨HR4.out,HK4.out.2,hge,HB4.out,World.ownsRow_nil _ _ _ _,World.ownsRow_nil _ _ _ _,fun h=>(by simp [Value.ownBlock] at h),fun _ _ hx=>(Jba hx).elim,fun _ _ hx=>(Jba hx).elim⟩
   have HF:=hid (idir W1 fu B g h w3.heap.size 2 l1 (c+1) f1 W4 (IH.out B g h) hDm (by omega) (fun _=>hle) (by omega) (by omega));have e0':W4.cell? ⟨w3.heap.size,0,none⟩=some (.int .i64 2):=e0;clear e0 hDm;go_wp2_with fail
   refine HF.out.mono ?_;rintro e w5 ⟨⟨u,rfl⟩,O,N,I,rs,An,Ai,cn,ci,l',c',f',hN,hI,q2,q3,hst,a2,b2⟩;clear e0';have hn5:=hst.done (by decide) hN hI;rw [HZ.out] at hn5;have hX5:Box w5 w.heap.size nd0 raw0:=hst.kp.blk HX1.out (by decide);have hk5:words.Kept Rz B w w5:=HK.out.1.trans hst.kp;have hr5:=hst.rr;have i0:w5.cell? ⟨w3.heap.size,0,none⟩=some (.int .i64 2):=hst.box.cells.1;have i1:w5.cell? ⟨w3.heap.size,1,none⟩=some (.bool O):=hst.box.cells.2.1;have i2:w5.cell? ⟨w3.heap.size,2,none⟩=some (.slice An N.length cn):=hst.box.cells.2.2.1;have i3:w5.cell? ⟨w3.heap.size,3,none⟩=some (.slice Ai I.length ci):=hst.box.cells.2.2.2.1;have i4:w5.cell? ⟨w3.heap.size,4,none⟩=some (.int .i64 0):=hst.box.cells.2.2.2.2.1;have i5:w5.cell? ⟨w3.heap.size,5,none⟩=some (.slice none 0 0):=hst.box.cells.2.2.2.2.2.1;have i6:w5.cell? ⟨w3.heap.size,6,none⟩=some (.string ⟨#[]⟩):=hst.box.cells.2.2.2.2.2.2;have HA2:=hid (And.intro a2 b2);clear hst a2 b2 HF HB4 HX4 HR4;have hd:=Jc0 hX5 hr5 hk5 hn5;have z0:=Jab hX5 0;have z1:=Jab hX5 1;have z2:=Jab hX5 2;have z3:=Jab hX5 3;have z4:=Jab hX5 4;have z5:=Jab hX5 5;have z6:=Jab hX5 6;obtain⟨y0,y1,y2,y3,y4,y5,y6⟩:=Box.cells hX5;obtain⟨Wd,hWd⟩:=words.nm (w5.setCells w.heap.size 0 (rawCells (dN 2 O N I) ⟨An,cn,Ai,ci,none,0⟩).toList);rw [←hWd] at hd;obtain⟨d1,d2,d3,d4⟩:=hd;obtain⟨p0,p1,p2,p3,p4,p5,p6⟩:=d4.cells;have hWd':((((((w5.setCell ⟨w.heap.size,0,none⟩ (.int .i64 2)).setCell ⟨w.heap.size,1,none⟩ (.bool O)).setCell ⟨w.heap.size,2,none⟩ (.slice An N.length cn)).setCell ⟨w.heap.size,3,none⟩ (.slice Ai I.length ci)).setCell ⟨w.heap.size,4,none⟩ (.int .i64 0)).setCell ⟨w.heap.size,5,none⟩ (.slice none 0 0)).setCell ⟨w.heap.size,6,none⟩ (.string ⟨#[]⟩)=Wd:=by rw [hWd];rfl
   have HWd:=hid hWd';have HD:=hid (And.intro d1 (And.intro d2 d3));clear hWd hWd' d1 d2 d3 d4 hX5 hr5 hk5 hn5;go_wp2_with fail
   rw [HWd.out];exact bodyPost_ret (v:=ndV (dN 2 O N I) ⟨An,cn,Ai,ci,none,0⟩) (by unfold ndV rawCells;simp [results,results115,go_sem,p0,p1,p2,p3,p4,p5,p6]) rfl ⟨dN 2 O N I,_,l',c',f',rfl,HD.out.1,HD.out.2.1,HD.out.2.2,by omega,q3,fun h=>⟨(HA2.out.1 h).1,Jtk (HA2.out.1 h).2.2,HA1.out.2.1 (HA2.out.1 h).2.1,by rw [np_2 hle (HA1.out.1 (HA2.out.1 h).2.1),(HA2.out.1 h).2.2];rfl⟩,fun h1 h2=>by
           rcases f1 with _ |_
           ·rw [np_2 hle (HA1.out.1 rfl),HA2.out.2 rfl h2]
           ·exact Jiv (HA1.out.2.2 h1 rfl)⟩
  by_cases hv3:v=3
  ·subst hv3
   have HF:=hid (Jkx 2 B g h l1 ((c+1:Nat):Int) f1 W4 HR4.out (by decide) (by decide));have e0':W4.cell? ⟨w3.heap.size,0,none⟩=some (.int .i64 3):=e0;clear e0;go_wp2_with fail
   refine HF.out.mono ?_;rintro e w5 ht;clear e0';obtain⟨x,l',f',rfl,hx,hr5,hk45,q2,a2,b2⟩:=ht.one (by decide) (by omega);have hB5:Box w5 w3.heap.size (dN 3 false [] []) raw0:=Jtx HB4.out hk45;have hX5:Box w5 w.heap.size nd0 raw0:=Jtx HX4.out hk45;have yy6:=Jab hB5 6;have yc6:w5.cell? ⟨w3.heap.size,6,none⟩=some (.string ⟨#[]⟩):=(Box.cells hB5).2.2.2.2.2.2;obtain⟨W6,hW6⟩:=words.nm (w5.setCell ⟨w3.heap.size,6,none⟩ (.string x));have hne:w.heap.size≠w3.heap.size:=by have:=HZ.out;omega
   have hX6:Box W6 w.heap.size nd0 raw0:=by rw [hW6];exact (Below.heap_setCell w5 ⟨w3.heap.size,6,none⟩ _ _ hne).trans hX5
   have hB6:Box W6 w3.heap.size (.mk 3 false [] [] 0 [] x) raw0:=by
    have h5:=heap_setCell_same w5 w3.heap.size 6 _ _ (.string x) hB5;rw [←hW6] at h5;exact h5
   have hr6:Rr W6 B g h l' ((c+1:Nat):Int) f':=by rw [hW6];exact hr5.setBox hB5 _
   have hk6:words.Kept Rz B w W6:=by rw [hW6];exact Ja4 (p:=⟨w3.heap.size,6,none⟩) (HK4.out.1.trans hk45) (by have:=HZ.out;show w.heap.size≤w3.heap.size;omega) _
   have hn6:NdIn W6 (Qz W6 (w.heap.size+1)) (.mk 3 false [] [] 0 [] x) raw0:=Jk0 3 x (by decide) (by omega);have i0:W6.cell? ⟨w3.heap.size,0,none⟩=some (.int .i64 3):=hB6.cells.1;have i1:W6.cell? ⟨w3.heap.size,1,none⟩=some (.bool false):=hB6.cells.2.1;have i2:W6.cell? ⟨w3.heap.size,2,none⟩=some (.slice none 0 0):=hB6.cells.2.2.1;have i3:W6.cell? ⟨w3.heap.size,3,none⟩=some (.slice none 0 0):=hB6.cells.2.2.2.1;have i4:W6.cell? ⟨w3.heap.size,4,none⟩=some (.int .i64 0):=hB6.cells.2.2.2.2.1;have i5:W6.cell? ⟨w3.heap.size,5,none⟩=some (.slice none 0 0):=hB6.cells.2.2.2.2.2.1;have i6:W6.cell? ⟨w3.heap.size,6,none⟩=some (.string x):=hB6.cells.2.2.2.2.2.2;have HA2:=hid (And.intro (fun h=>(a2 h).2.1) (And.intro (fun h=>(a2 h).1) b2));have HW6:=hid hW6;clear ht a2 b2 HF HB4 HX4 HR4 hr5 hk45 hB5 hX5 hB6 hne hW6;go_upto_region 13 with fail
   rw [←HW6.out];clear yy6 yc6;have hd:=Jc0 hX6 hr6 hk6 hn6;have z0:=Jab hX6 0;have z1:=Jab hX6 1;have z2:=Jab hX6 2;have z3:=Jab hX6 3;have z4:=Jab hX6 4;have z5:=Jab hX6 5;have z6:=Jab hX6 6;obtain⟨y0,y1,y2,y3,y4,y5,y6⟩:=Box.cells hX6;obtain⟨Wd,hWd⟩:=words.nm (W6.setCells w.heap.size 0 (rawCells (.mk 3 false [] [] 0 [] x) raw0).toList);rw [←hWd] at hd;obtain⟨d1,d2,d3,d4⟩:=hd;obtain⟨p0,p1,p2,p3,p4,p5,p6⟩:=d4.cells;have hWd':((((((W6.setCell ⟨w.heap.size,0,none⟩ (.int .i64 3)).setCell ⟨w.heap.size,1,none⟩ (.bool false)).setCell ⟨w.heap.size,2,none⟩ (.slice none 0 0)).setCell ⟨w.heap.size,3,none⟩ (.slice none 0 0)).setCell ⟨w.heap.size,4,none⟩ (.int .i64 0)).setCell ⟨w.heap.size,5,none⟩ (.slice none 0 0)).setCell ⟨w.heap.size,6,none⟩ (.string x)=Wd:=by rw [hWd];rfl
   have HWd:=hid hWd';have HD:=hid (And.intro d1 (And.intro d2 d3));clear hWd hWd' d1 d2 d3 d4 hX6 hr6 hk6 hn6;go_wp2_with fail
   rw [HWd.out];exact bodyPost_ret (v:=ndV (.mk 3 false [] [] 0 [] x) raw0) (by unfold ndV rawCells;simp [results,results115,go_sem,p0,p1,p2,p3,p4,p5,p6]) rfl ⟨.mk 3 false [] [] 0 [] x,raw0,l',c+1,f',rfl,HD.out.1,HD.out.2.1,HD.out.2.2,by omega,by omega,fun h=>⟨hle,Nat.lt_succ_self _,HA1.out.2.1 (HA2.out.2.1 h),by rw [np_3 hle (HA1.out.1 (HA2.out.2.1 h)),HA2.out.1 h];rfl⟩,fun h1 h2=>by
           rcases f1 with _ |_
           ·rw [np_3 hle (HA1.out.1 rfl),HA2.out.2.2 rfl h2]
           ·exact Jiv (HA1.out.2.2 h1 rfl)⟩
  have g1:¬(v:Int)=1:=by omega
  have g2:¬(v:Int)=2:=by omega
  have g3:¬(v:Int)=3:=by omega
  have hn4:NdIn W4 (Qz W4 (w.heap.size+1)) (dN (v:Int) false [] []) raw0:=Jk0 (v:Int) ⟨#[]⟩ (by omega) (by decide);have hX4:=HX4.out;have hr4:=HR4.out;have hk4:=HK4.out.1;have i1:W4.cell? ⟨w3.heap.size,1,none⟩=some (.bool false):=HB4.out.cells.2.1;have i2:W4.cell? ⟨w3.heap.size,2,none⟩=some (.slice none 0 0):=HB4.out.cells.2.2.1;have i3:W4.cell? ⟨w3.heap.size,3,none⟩=some (.slice none 0 0):=HB4.out.cells.2.2.2.1;have i4:W4.cell? ⟨w3.heap.size,4,none⟩=some (.int .i64 0):=HB4.out.cells.2.2.2.2.1;have i5:W4.cell? ⟨w3.heap.size,5,none⟩=some (.slice none 0 0):=HB4.out.cells.2.2.2.2.2.1;have i6:W4.cell? ⟨w3.heap.size,6,none⟩=some (.string ⟨#[]⟩):=HB4.out.cells.2.2.2.2.2.2;clear HB4 HX4 HR4;have hd:=Jc0 hX4 hr4 hk4 hn4;have z0:=Jab hX4 0;have z1:=Jab hX4 1;have z2:=Jab hX4 2;have z3:=Jab hX4 3;have z4:=Jab hX4 4;have z5:=Jab hX4 5;have z6:=Jab hX4 6;obtain⟨y0,y1,y2,y3,y4,y5,y6⟩:=Box.cells hX4;obtain⟨Wd,hWd⟩:=words.nm (W4.setCells w.heap.size 0 (rawCells (dN (v:Int) false [] []) raw0).toList);rw [←hWd] at hd;obtain⟨d1,d2,d3,d4⟩:=hd;obtain⟨p0,p1,p2,p3,p4,p5,p6⟩:=d4.cells;have hWd':((((((W4.setCell ⟨w.heap.size,0,none⟩ (.int .i64 (v:Int))).setCell ⟨w.heap.size,1,none⟩ (.bool false)).setCell ⟨w.heap.size,2,none⟩ (.slice none 0 0)).setCell ⟨w.heap.size,3,none⟩ (.slice none 0 0)).setCell ⟨w.heap.size,4,none⟩ (.int .i64 0)).setCell ⟨w.heap.size,5,none⟩ (.slice none 0 0)).setCell ⟨w.heap.size,6,none⟩ (.string ⟨#[]⟩)=Wd:=by rw [hWd];rfl
  have HWd:=hid hWd';have HD:=hid (And.intro d1 (And.intro d2 d3));clear hWd hWd' d1 d2 d3 d4 hX4 hr4 hk4 hn4;go_wp2_with fail
  rw [HWd.out];exact bodyPost_ret (v:=ndV (dN (v:Int) false [] []) raw0) (by unfold ndV rawCells;simp [results,results115,go_sem,p0,p1,p2,p3,p4,p5,p6]) rfl ⟨dN (v:Int) false [] [],raw0,l1,c+1,f1,rfl,HD.out.1,HD.out.2.1,HD.out.2.2,q1,by omega,fun h=>⟨hle,Nat.lt_succ_self _,HA1.out.2.1 h,np_4 hle (HA1.out.1 h) hv1 hv2 hv3⟩,fun h1 h2=>Jiv (HA1.out.2.2 h1 h2)⟩

def decB (s:ByteArray):Option Nd:=if Lib.hasPrefix s.data.toList magic.data.toList=true∧s.size≤4194304 then decL (Lib.trimPrefix s.data.toList magic.data.toList) else none
def Decoded (s:ByteArray) (w:World) (e:Ending) (w':World):Prop:=
 ((∃n r,decB s=some n∧e= .returned (.tuple #[ndV n r,.int .i64 0])∧NdIn w' (Qz w' w.heap.size) n r)∨(decB s=none∧e= .returned (.tuple #[ndV nd0 raw0,.int .i64 1])))∧Below w.heap.size w w'
theorem Jof {l:List UInt8} (h:nodeP 4097 0 l=none):decL l=none:=by unfold decL;rw [h]
theorem Joc {l l':List UInt8} {n:Nd} {c:Nat} (h:nodeP 4097 0 l=some (n,l',c)) (hl:l'≠[]):decL l=none:=by
 unfold decL;rw [h];rcases l' with _ |⟨x,l'⟩
 ·exact absurd rfl hl
 ·rfl
theorem Jj3 {l:List UInt8} {n:Nd} {c:Nat} (h:nodeP 4097 0 l=some (n,[],c)):decL l=if treeB n=true then some n else none:=by unfold decL;rw [h]
theorem Jc6 {w wr:World} {n m:Nd} {r q:Raw} (hb:Box wr w.heap.size m q) (hk:Below w.heap.size w wr):Below w.heap.size w (wr.setCells w.heap.size 0 (rawCells n r).toList)∧Box (wr.setCells w.heap.size 0 (rawCells n r).toList) w.heap.size n r:=
 ⟨below_setCells (Nat.le_refl _) _ 0 wr hk,hb.over⟩
theorem Jhf (s:ByteArray) (m:Int) (w:World) (hm:w.cell? ⟨1,0,none⟩=some (.int .i64 m)) (hsz:s.size≤140737488355328)
  (hd:∀n c,nodeP 4097 0 (Lib.trimPrefix s.data.toList magic.data.toList)=some (n,[],c)→depth n≤1000):
  Calls prog 74 #[.string s] w (Decoded s w):=by
 obtain⟨W1,hW1⟩:=words.nm (w.alloc (.cells (rawCells nd0 raw0) 46));have hb1:=words.b1 hW1;have hX1:Box W1 w.heap.size nd0 raw0:=by rw [hW1];exact Box.new w nd0 raw0
 have hz1:W1.heap.size=w.heap.size+1:=by rw [hW1];simp
 obtain⟨l,hl⟩:=words.nm (Lib.trimPrefix s.data.toList magic.data.toList);obtain⟨b,hb⟩:=words.nm (Lib.hasPrefix s.data.toList magic.data.toList);obtain⟨q,hq⟩:∃q:ByteArray,q=mkB l:=⟨_,rfl⟩
 have hql:q.data.toList=l:=by rw [hq];rfl
 have hlen:l.length≤s.size:=by
  rw [hl,←ext.size_list s];unfold Lib.trimPrefix;split
  ·rw [List.length_drop];omega
  ·exact Nat.le_refl _
 have hqz:q.size=l.length:=by rw [←ext.size_list,hql]
 have hC:Calls prog 113 #[.string s,.string ⟨#[115,111,99,97,103,101,49]⟩] W1 fun e w'=>e= .returned (.tuple #[.string q,.bool b])∧w'=W1:=by
  rw [hq,hl,hb];exact Tryz.strings_CutPrefix s _ W1
 have hD:decB s=if b=true∧s.size≤4194304 then decL l else none:=by rw [hl,hb];rfl
 rw [←hl] at hd;have hW1':W1=w.alloc (.cells #[.int .i64 0,.bool false,.slice none 0 0,.slice none 0 0,.int .i64 0,.slice none 0 0,.string ⟨#[]⟩] 46):=hW1;have HW1:=hid hW1';have HB1:=hid hb1;have HX1:=hid hX1;have HM:=hid hm;have HC:=hid hC;have HD:=hid hD;have HQ:=hid hql;have HDp:=hid hd;have HZ1:=hid hz1;clear hz1 hW1 hW1' hb1 hX1 hm hC hD hql hd hq hl hb;go_enter func74,ntmps74
 go_upto_region 1 with fail
 rw [←HW1.out];go_wp2_with fail
 refine HC.out.mono ?_;rintro e w2 ⟨rfl,rfl⟩;rcases b with _ |_
 ·have g0:(!false)=true:=rfl
  have hd:=Jc6 (n:=nd0) (r:=raw0) HX1.out HB1.out;have z0:=Jab HX1.out 0;have z1:=Jab HX1.out 1;have z2:=Jab HX1.out 2;have z3:=Jab HX1.out 3;have z4:=Jab HX1.out 4;have z5:=Jab HX1.out 5;have z6:=Jab HX1.out 6;obtain⟨y0,y1,y2,y3,y4,y5,y6⟩:=Box.cells HX1.out;obtain⟨Wd,hWd⟩:=words.nm (w2.setCells w.heap.size 0 (rawCells nd0 raw0).toList);rw [←hWd] at hd;obtain⟨d1,d4⟩:=hd;obtain⟨p0,p1,p2,p3,p4,p5,p6⟩:=d4.cells;have hWd':((((((w2.setCell ⟨w.heap.size,0,none⟩ (.int .i64 0)).setCell ⟨w.heap.size,1,none⟩ (.bool false)).setCell ⟨w.heap.size,2,none⟩ (.slice none 0 0)).setCell ⟨w.heap.size,3,none⟩ (.slice none 0 0)).setCell ⟨w.heap.size,4,none⟩ (.int .i64 0)).setCell ⟨w.heap.size,5,none⟩ (.slice none 0 0)).setCell ⟨w.heap.size,6,none⟩ (.string ⟨#[]⟩)=Wd:=by rw [hWd];rfl
  have HWd:=hid hWd';have HBd:=hid d1;clear hWd hWd' d1 d4;go_wp2_with fail
  rw [HWd.out];exact bodyPost_ret (v:= .tuple #[ndV nd0 raw0,.int .i64 1]) (by unfold ndV rawCells;simp [results,results74,go_sem,p0,p1,p2,p3,p4,p5,p6]) rfl ⟨.inr ⟨by rw [HD.out,if_neg (fun h=>by cases h.1)],rfl⟩,HBd.out⟩
 by_cases hbig:4194304<s.size
 ·have g1:(4194304:Int)<(s.size:Int):=by omega
  have HG:=hid hbig;clear hbig;have hd:=Jc6 (n:=nd0) (r:=raw0) HX1.out HB1.out;have z0:=Jab HX1.out 0;have z1:=Jab HX1.out 1;have z2:=Jab HX1.out 2;have z3:=Jab HX1.out 3;have z4:=Jab HX1.out 4;have z5:=Jab HX1.out 5;have z6:=Jab HX1.out 6;obtain⟨y0,y1,y2,y3,y4,y5,y6⟩:=Box.cells HX1.out;obtain⟨Wd,hWd⟩:=words.nm (w2.setCells w.heap.size 0 (rawCells nd0 raw0).toList);rw [←hWd] at hd;obtain⟨d1,d4⟩:=hd;obtain⟨p0,p1,p2,p3,p4,p5,p6⟩:=d4.cells;have hWd':((((((w2.setCell ⟨w.heap.size,0,none⟩ (.int .i64 0)).setCell ⟨w.heap.size,1,none⟩ (.bool false)).setCell ⟨w.heap.size,2,none⟩ (.slice none 0 0)).setCell ⟨w.heap.size,3,none⟩ (.slice none 0 0)).setCell ⟨w.heap.size,4,none⟩ (.int .i64 0)).setCell ⟨w.heap.size,5,none⟩ (.slice none 0 0)).setCell ⟨w.heap.size,6,none⟩ (.string ⟨#[]⟩)=Wd:=by rw [hWd];rfl
  have HWd:=hid hWd';have HBd:=hid d1;clear hWd hWd' d1 d4;go_wp2_with fail
  rw [HWd.out];exact bodyPost_ret (v:= .tuple #[ndV nd0 raw0,.int .i64 1]) (by unfold ndV rawCells;simp [results,results74,go_sem,p0,p1,p2,p3,p4,p5,p6]) rfl ⟨.inr ⟨by rw [HD.out,if_neg (fun h=>by have:=HG.out;omega)],rfl⟩,HBd.out⟩
 have g1:¬(4194304:Int)<(s.size:Int):=by omega
 have hD1:decB s=decL l:=by rw [HD.out,if_pos ⟨rfl,by omega⟩]
 have hR:=Jfx q w2;obtain⟨W3,hW3⟩:=words.nm (w2.alloc (.cells #[.string q] 230));rw [←hW3] at hR;have hb3:Below w.heap.size w W3:=by rw [hW3];exact HB1.out.alloc HB1.out.size _
 have hz3:W3.heap.size=w.heap.size+2:=by rw [hW3];simp [HZ1.out]
 have hq3:W3.heap[w2.heap.size]?=some (.cells #[.string q] 230 (0,0)):=by rw [hW3];exact heap_alloc_new w2 _
 have hX3:Box W3 w.heap.size nd0 raw0:=by rw [hW3];exact HX1.out.alloc _
 obtain⟨W4,hW4⟩:=words.nm (W3.alloc (.cells #[.pointer (some ⟨w2.heap.size,0,none⟩),.int .i64 0,.bool false] 194));have hb4:Below w.heap.size w W4:=by rw [hW4];exact hb3.alloc hb3.size _
 have hq4:W4.heap[w2.heap.size]?=some (.cells #[.string q] 230 (0,0)):=by rw [hW4];exact (Below.heap_alloc W3 _ _ (lt_of_some hq3)).trans hq3
 have hg4:W4.heap[W3.heap.size]?=some (.cells #[.pointer (some ⟨w2.heap.size,0,none⟩),.int .i64 0,.bool false] 194 (0,0)):=by rw [hW4];exact heap_alloc_new W3 _
 have hX4:Box W4 w.heap.size nd0 raw0:=by rw [hW4];exact hX3.alloc _
 have hr4:Rr W4 w.heap.size W3.heap.size w2.heap.size l ((0:Nat):Int) false:=⟨by omega,by have:=HZ1.out;omega,hg4,q,HQ.out,by omega,hq4⟩
 have HN:=hid (inode 4097 w.heap.size W3.heap.size w2.heap.size l 0 false W4 hr4 (by omega) (by omega) (by omega));have HD1:=hid hD1;have HR:=hid hR;have HW4:=hid hW4;have HB4:=hid hb4;have HX4:=hid hX4;have HZ3:=hid hz3;clear hz3 hD1 hR hW3 hb3 hq3 hX3 hW4 hb4 hq4 hg4 hX4 hr4 HD HX1 HB1 HW1 HC;go_wp2_with fail
 refine HR.out.mono ?_;rintro e w3 ⟨rfl,rfl⟩;go_upto_region 5 with fail
 rw [←HW4.out];go_wp2_with fail
 refine HN.out.mono ?_;rintro e w5 ⟨n,r,l',c',f',rfl,hy,hr5,hk5,q5,z5,a5,b5⟩;have hb5:Below w.heap.size w w5:=HB4.out.trans (hk5.below HB4.out.size);have hX5:Box w5 w.heap.size nd0 raw0:=Jtx HX4.out hk5;obtain⟨W6,hW6⟩:=words.nm (w5.alloc (.cells (rawCells n r) 46));have ha6:Below w5.heap.size w5 W6:=words.b1 hW6;have hb6:Below w.heap.size w W6:=hb5.trans (ha6.mono hb5.size);have hX6:Box W6 w.heap.size nd0 raw0:=hX5.below ha6;have hY6:Box W6 w5.heap.size n r:=by rw [hW6];exact Box.new w5 n r
 have hr6:Rr W6 w.heap.size W3.heap.size w2.heap.size l' (c':Int) f':=hr5.frame ha6.block;have hn6:NdIn W6 (Qz W6 W4.heap.size) n r:=hy.keep fun k hk=>⟨ha6.block k hk.lt,hk.same (ha6.block k hk.lt)⟩
 have hz4:W4.heap.size=w.heap.size+3:=by rw [HW4.out];simp [HZ3.out]
 have HZ4:=hid hz4;clear hz4;unfold rawCells at hW6;have HW6:=hid hW6;have HB6:=hid hb6;have HX6:=hid hX6;have HY6:=hid hY6;have HR6:=hid hr6;have HN6:=hid hn6;have HA5:=hid (And.intro a5 (b5 rfl));clear hy hr5 hk5 a5 b5 hb5 hX5 hW6 ha6 hb6 hX6 hY6 hr6 hn6 HN HR HW4 HB4 HX4;unfold ndV rawCells;go_upto_region 6 with fail
 rw [←HW6.out];obtain⟨c0,c1,c2,_,_⟩:=HR6.out.cells;rcases f' with _ |_
 rotate_left
 ·skip
  have hd:=Jc6 (n:=nd0) (r:=raw0) HX6.out HB6.out;have z0:=Jab HX6.out 0;have z1:=Jab HX6.out 1;have z2:=Jab HX6.out 2;have z3:=Jab HX6.out 3;have z4:=Jab HX6.out 4;have z5:=Jab HX6.out 5;have z6:=Jab HX6.out 6;obtain⟨y0,y1,y2,y3,y4,y5,y6⟩:=Box.cells HX6.out;obtain⟨Wd,hWd⟩:=words.nm (W6.setCells w.heap.size 0 (rawCells nd0 raw0).toList);rw [←hWd] at hd;obtain⟨d1,d4⟩:=hd;obtain⟨p0,p1,p2,p3,p4,p5,p6⟩:=d4.cells;have hWd':((((((W6.setCell ⟨w.heap.size,0,none⟩ (.int .i64 0)).setCell ⟨w.heap.size,1,none⟩ (.bool false)).setCell ⟨w.heap.size,2,none⟩ (.slice none 0 0)).setCell ⟨w.heap.size,3,none⟩ (.slice none 0 0)).setCell ⟨w.heap.size,4,none⟩ (.int .i64 0)).setCell ⟨w.heap.size,5,none⟩ (.slice none 0 0)).setCell ⟨w.heap.size,6,none⟩ (.string ⟨#[]⟩)=Wd:=by rw [hWd];rfl
  have HWd:=hid hWd';have HBd:=hid d1;clear hWd hWd' d1 d4;go_wp2_with fail
  rw [HWd.out];exact bodyPost_ret (v:= .tuple #[ndV nd0 raw0,.int .i64 1]) (by unfold ndV rawCells;simp [results,results74,go_sem,p0,p1,p2,p3,p4,p5,p6]) rfl ⟨.inr ⟨by rw [HD1.out];exact Jof (HA5.out.2 (by first |exact rfl |trivial)),rfl⟩,HBd.out⟩
 obtain⟨s',hs1,hs2,hs3⟩:=HR6.out.2.2.2;have hL:=Jtt w2.heap.size s' W6 hs3;obtain⟨k,hk⟩:=words.nm (s'.size);have hkl:l'.length=k:=by rw [hk,←hs1,ext.size_list]
 rw [←hk] at hL;have HL:=hid hL;have HKL:=hid hkl;clear hs1 hs2 hs3 hL hk hkl q5;by_cases hleft:0<k
 ·have g2:(0:Int)<(k:Int):=by omega
  have hne:l'≠[]:=by
   intro h;have e:=HKL.out;rw [h] at e;have:0=k:=e;omega
  have HD2:=hid (Joc (HA5.out.1 (by first |exact rfl |trivial)).2.2.2 hne);clear hleft hne;go_wp2_with fail
  refine HL.out.mono ?_;rintro e w7 ⟨rfl,rfl⟩;have hd:=Jc6 (n:=nd0) (r:=raw0) HX6.out HB6.out;have z0:=Jab HX6.out 0;have z1:=Jab HX6.out 1;have z2:=Jab HX6.out 2;have z3:=Jab HX6.out 3;have z4:=Jab HX6.out 4;have z5:=Jab HX6.out 5;have z6:=Jab HX6.out 6;obtain⟨y0,y1,y2,y3,y4,y5,y6⟩:=Box.cells HX6.out;obtain⟨Wd,hWd⟩:=words.nm (W6.setCells w.heap.size 0 (rawCells nd0 raw0).toList);rw [←hWd] at hd;obtain⟨d1,d4⟩:=hd;obtain⟨p0,p1,p2,p3,p4,p5,p6⟩:=d4.cells;have hWd':((((((W6.setCell ⟨w.heap.size,0,none⟩ (.int .i64 0)).setCell ⟨w.heap.size,1,none⟩ (.bool false)).setCell ⟨w.heap.size,2,none⟩ (.slice none 0 0)).setCell ⟨w.heap.size,3,none⟩ (.slice none 0 0)).setCell ⟨w.heap.size,4,none⟩ (.int .i64 0)).setCell ⟨w.heap.size,5,none⟩ (.slice none 0 0)).setCell ⟨w.heap.size,6,none⟩ (.string ⟨#[]⟩)=Wd:=by rw [hWd];rfl
  have HWd:=hid hWd';have HBd:=hid d1;clear hWd hWd' d1 d4;go_wp2_with fail
  rw [HWd.out];exact bodyPost_ret (v:= .tuple #[ndV nd0 raw0,.int .i64 1]) (by unfold ndV rawCells;simp [results,results74,go_sem,p0,p1,p2,p3,p4,p5,p6]) rfl ⟨.inr ⟨by rw [HD1.out];exact HD2.out,rfl⟩,HBd.out⟩
 have g2:¬(0:Int)<(k:Int):=by omega
 have hnil:l'=[]:=List.eq_nil_of_length_eq_zero (by have:=HKL.out;omega);subst hnil;have hnp:=(HA5.out.1 (by first |exact rfl |trivial)).2.2.2;have hT:=Jeq n r m W6 (HN6.out.at_ fun k hk=>hk.lt) (Jao HM.out HB6.out) (HDp.out n c' hnp);have HD2:=hid (Jj3 hnp);unfold ndV rawCells at hT;have HT:=hid hT;obtain⟨b0,b1,b2,b3,b4,b5,b6⟩:=HY6.out.cells;clear hnp hT;go_wp2_with fail
 refine HL.out.mono ?_;rintro e w7 ⟨rfl,rfl⟩;go_wp2_with fail
 refine HT.out.mono ?_;rintro e w8 ⟨rfl,hb8⟩;have hb08:Below w.heap.size w w8:=HB6.out.trans (hb8.mono HB6.out.size);have hX8:Box w8 w.heap.size nd0 raw0:=HX6.out.below hb8;have hY8:Box w8 w5.heap.size n r:=HY6.out.below hb8;have hn8:NdIn w8 (Qz w8 W4.heap.size) n r:=HN6.out.keep fun k hk=>⟨hb8.block k hk.lt,hk.same (hb8.block k hk.lt)⟩
 clear hb8 HT HL HN6 HX6 HY6 HB6 HR6 b0 b1 b2 b3 b4 b5 b6 c0 c1 c2;rcases ht:treeB n with _ |_
 ·skip
  have hd:=Jc6 (n:=nd0) (r:=raw0) hX8 hb08;have z0:=Jab hX8 0;have z1:=Jab hX8 1;have z2:=Jab hX8 2;have z3:=Jab hX8 3;have z4:=Jab hX8 4;have z5:=Jab hX8 5;have z6:=Jab hX8 6;obtain⟨y0,y1,y2,y3,y4,y5,y6⟩:=Box.cells hX8;obtain⟨Wd,hWd⟩:=words.nm (w8.setCells w.heap.size 0 (rawCells nd0 raw0).toList);rw [←hWd] at hd;obtain⟨d1,d4⟩:=hd;obtain⟨p0,p1,p2,p3,p4,p5,p6⟩:=d4.cells;have hWd':((((((w8.setCell ⟨w.heap.size,0,none⟩ (.int .i64 0)).setCell ⟨w.heap.size,1,none⟩ (.bool false)).setCell ⟨w.heap.size,2,none⟩ (.slice none 0 0)).setCell ⟨w.heap.size,3,none⟩ (.slice none 0 0)).setCell ⟨w.heap.size,4,none⟩ (.int .i64 0)).setCell ⟨w.heap.size,5,none⟩ (.slice none 0 0)).setCell ⟨w.heap.size,6,none⟩ (.string ⟨#[]⟩)=Wd:=by rw [hWd];rfl
  have HWd:=hid hWd';have HBd:=hid d1;clear hWd hWd' d1 d4;go_wp2_with fail
  rw [HWd.out];exact bodyPost_ret (v:= .tuple #[ndV nd0 raw0,.int .i64 1]) (by unfold ndV rawCells;simp [results,results74,go_sem,p0,p1,p2,p3,p4,p5,p6]) rfl ⟨.inr ⟨by rw [HD1.out,HD2.out,ht];rfl,rfl⟩,HBd.out⟩
 obtain⟨b0,b1,b2,b3,b4,b5,b6⟩:=hY8.cells;have hd:=Jc6 (n:=n) (r:=r) hX8 hb08;have z0:=Jab hX8 0;have z1:=Jab hX8 1;have z2:=Jab hX8 2;have z3:=Jab hX8 3;have z4:=Jab hX8 4;have z5:=Jab hX8 5;have z6:=Jab hX8 6;obtain⟨y0,y1,y2,y3,y4,y5,y6⟩:=Box.cells hX8;obtain⟨Wd,hWd⟩:=words.nm (w8.setCells w.heap.size 0 (rawCells n r).toList);have hnd:NdIn Wd (Qz Wd w.heap.size) n r:=hn8.keep fun k hk=>by
  have e:Wd.heap[k]?=w8.heap[k]?:=by rw [hWd];exact World.heap_setCells_other w8 _ _ _ hk.lt (by have:=hk.1;have:=HZ4.out;omega)
  exact⟨e,(hk.same e).less (by have:=HZ4.out;omega)⟩
 have HNd:=hid hnd;clear hnd;rw [←hWd] at hd;obtain⟨d1,d4⟩:=hd;obtain⟨p0,p1,p2,p3,p4,p5,p6⟩:=d4.cells;have hWd':((((((w8.setCell ⟨w.heap.size,0,none⟩ (.int .i64 n.K)).setCell ⟨w.heap.size,1,none⟩ (.bool n.O)).setCell ⟨w.heap.size,2,none⟩ (.slice r.An n.N.length r.cn)).setCell ⟨w.heap.size,3,none⟩ (.slice r.Ai n.I.length r.ci)).setCell ⟨w.heap.size,4,none⟩ (.int .i64 n.S)).setCell ⟨w.heap.size,5,none⟩ (.slice r.Ae n.E.length r.ce)).setCell ⟨w.heap.size,6,none⟩ (.string n.T)=Wd:=by rw [hWd];rfl
 have HWd:=hid hWd';have HBd:=hid d1;clear hWd hWd' d1 d4;go_wp2_with fail
 rw [HWd.out];exact bodyPost_ret (v:= .tuple #[ndV n r,.int .i64 0]) (by unfold ndV rawCells;simp [results,results74,go_sem,p0,p1,p2,p3,p4,p5,p6]) rfl ⟨.inl ⟨n,r,by rw [HD1.out,HD2.out,ht];rfl,rfl,HNd.out⟩,HBd.out⟩

theorem Jd1 (p l:List UInt8):Lib.hasPrefix (p++l) p=true:=by
 unfold Lib.hasPrefix;rw [List.isPrefixOf_iff_prefix];exact List.prefix_append p l
theorem Jg5 (p l:List UInt8):Lib.trimPrefix (p++l) p=l:=by
 unfold Lib.trimPrefix;rw [if_pos (Jd1 p l),List.drop_left]
theorem Jg4 (n:Nd):(imgB n).data.toList=magic.data.toList++nb n:=by
 unfold imgB;rw [ByteArray.data_append,Array.toList_append]
theorem Jmn (n:Nd):Lib.trimPrefix (imgB n).data.toList magic.data.toList=nb n:=by rw [Jg4,Jg5]
theorem Jky {n:Nd} (h:treeB n=true) (hc:count n≤4096) (hl:(nb n).length≤4194297):decB (imgB n)=some n:=by
 unfold decB;rw [if_pos ⟨by rw [Jg4];exact Jd1 _ _,by rw [Jkd];omega⟩,Jmn,Jk7 h hc]
theorem Joh (n:Nd) (m:Int) (w:World) (hm:w.cell? ⟨1,0,none⟩=some (.int .i64 m)) (h:treeB n=true) (hc:count n≤4096) (hl:(nb n).length≤4194297):
  Calls prog 74 #[.string (imgB n)] w fun e w'=>∃r,e= .returned (.tuple #[ndV n r,.int .i64 0])∧NdIn w' (Qz w' w.heap.size) n r∧Below w.heap.size w w':=by
 refine (Jhf (imgB n) m w hm (by rw [Jkd];omega) fun x c hx=>?_).mono ?_
 ·rw [Jmn] at hx
  have h1:=Jj3 hx;rw [Jk7 h hc] at h1;split at h1
  ·injection h1 with h1
   rw [←h1];exact Nat.le_trans (Jbt h).2.2 (by decide)
  ·cases h1
 ·rintro e w' ⟨⟨x,r,hx,he,hn⟩ |⟨hx,_⟩,hb⟩
  ·rw [Jky h hc hl] at hx
   injection hx with hx;subst hx;exact⟨r,he,hn,hb⟩
  ·rw [Jky h hc hl] at hx
   cases hx

theorem Jcp (s:ByteArray) (k:Nat):(s.extract 0 k).data.toList=s.data.toList.take k:=by
 rw [ByteArray.data_extract,Array.toList_extract];simp
theorem Jkz {s:ByteArray} {m:Int} {w:World} (hm:w.cell? ⟨1,0,none⟩=some (.int .i64 m)) (hs:s.size≤140737488355328)
  (hd:∀n c,nodeP 4097 0 (Lib.trimPrefix s.data.toList magic.data.toList)=some (n,[],c)→depth n≤1000) (hn:decB s=none):
  Calls prog 74 #[.string s] w fun e w'=>e= .returned (.tuple #[ndV nd0 raw0,.int .i64 1])∧Below w.heap.size w w':=by
 refine (Jhf s m w hm hs hd).mono ?_;rintro e w' ⟨⟨n,r,h,_⟩ |⟨_,he⟩,hb⟩
 ·rw [hn] at h
  cases h
 ·exact⟨he,hb⟩
end Go.Proofs.YtekekhgjobahaaaGreatDoor.ima

namespace Go.Proofs.YtekekhgjobahaaaGreatDoor.ext
open Go.RowKit words

end Go.Proofs.YtekekhgjobahaaaGreatDoor.ext

namespace Go.Proofs.YtekekhgjobahaaaGreatDoor.ima
open Go.RowKit words ext name tre
theorem Jul (n:Nd) (m:Int) (w:World) (hm:w.cell? ⟨1,0,none⟩=some (.int .i64 m)) (h:treeB n=true) (hcc:countC n=(count n:Int)) (hc:count n≤4096) (hl:(nb n).length≤4194297) (hd:depth n≤1000):
  Calls prog 47 #[.string (imgB n)] w fun e w'=>(∃g,e= .returned (.tuple #[.pointer (some ⟨g,0,none⟩),.int .i64 0])∧Brn w' w'.heap.size g (flatN 0 n))∧Below w.heap.size w w':=by
 have hC:=Joh n m w hm h hc hl;obtain⟨q,hq⟩:=words.nm (imgB n);rw [←hq] at hC ⊢;have HC:=hid hC;have HM:=hid hm;clear hq hC hm;go_enter func47,ntmps47
 go_wp2_with fail
 refine HC.out.mono ?_;rintro e w1 ⟨r,rfl,hn,hb1⟩;obtain⟨W2,hW2⟩:=words.nm (w1.alloc (.cells (rawCells n r) 46));have hb2:Below w1.heap.size w1 W2:=words.b1 hW2;have hx2:Box W2 w1.heap.size n r:=by rw [hW2];exact Box.new w1 n r
 have hn2:=(hn.at_ fun k hk=>hk.lt).later hb2;have hb02:=hb1.trans (hb2.mono hb1.size);have hN:=Jwn n r m W2 hn2 (Jao HM.out hb02) hd h hcc hc;unfold ndV rawCells at hN;have HNew:=hid hN;have HB2:=hid hb02;have HX2:=hid hx2;unfold rawCells at hW2;have HW2:=hid hW2;clear hn hb1 hb2 hx2 hn2 hb02 hN hW2 HC;unfold ndV rawCells;go_upto_region 2 with fail
 rw [←HW2.out];clear HW2;obtain⟨b0,b1,b2,b3,b4,b5,b6⟩:=HX2.out.cells;go_wp2_with fail
 refine HNew.out.mono ?_;rintro e w3 ⟨⟨g,rfl,hbr⟩,hb3⟩;have HF:=hid (And.intro hbr (HB2.out.trans (hb3.mono HB2.out.size)));clear hbr hb3 HNew b0 b1 b2 b3 b4 b5 b6;go_wp2_with fail
 go_ret2
 exact⟨⟨g,rfl,HF.out.1⟩,HF.out.2⟩
theorem Jws (s:ByteArray) (m:Int) (w:World) (hm:w.cell? ⟨1,0,none⟩=some (.int .i64 m)) (hs:s.size≤140737488355328)
  (hd:∀n c,nodeP 4097 0 (Lib.trimPrefix s.data.toList magic.data.toList)=some (n,[],c)→depth n≤1000) (hn:decB s=none):
  Calls prog 47 #[.string s] w fun e w'=>e= .returned (.tuple #[.pointer none,.int .i64 1])∧Below w.heap.size w w':=by
 have HC:=hid (show Calls prog 74 #[.string s] w fun e w'=>e= .returned (.tuple #[.agg #[.int .i64 0,.bool false,.slice none 0 0,.slice none 0 0,.int .i64 0,.slice none 0 0,.string ⟨#[]⟩],.int .i64 1])∧Below w.heap.size w w' from Jkz hm hs hd hn);clear hm hd hn;go_enter func47,ntmps47
 go_wp2_with fail
 refine HC.out.mono ?_;rintro e w1 ⟨rfl,hb1⟩;have HB1:=hid hb1;clear hb1 HC;go_wp2_with fail
 go_ret2
 exact⟨rfl,HB1.out.alloc HB1.out.size _⟩
end Go.Proofs.YtekekhgjobahaaaGreatDoor.ima
