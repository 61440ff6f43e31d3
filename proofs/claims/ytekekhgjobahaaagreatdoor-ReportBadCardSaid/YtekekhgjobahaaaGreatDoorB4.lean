import Derived.Test.YtekekhgjobahaaaGreatDoorB3
set_option maxHeartbeats 6400000
set_option maxRecDepth 100000
open Go.Proofs.Tryz
namespace Go.Proofs.YtekekhgjobahaaaGreatDoor.tre
open Go.RowKit ext name

mutual
def preN:Nd→List Nd
 | .mk K O N I S E T=> .mk K O N I S E T::preL I
def preL:List Nd→List Nd
 |[]=>[]
 |x::L=>preN x++preL L
end
theorem Jgv (n:Nd):preN n=n::preL n.I:=by cases n;rw [preN];rfl
theorem Jd0:preL []=[]:=by rw [preL]
theorem Jbf (x:Nd) (L:List Nd):preL (x::L)=preN x++preL L:=by rw [preL]
mutual
theorem Jb8:∀n:Nd,(preN n).length=count n
 | .mk K O N I S E T=>by rw [preN,count,List.length_cons,Jdp I];omega
theorem Jdp:∀L:List Nd,(preL L).length=countL L
 |[]=>by rw [Jd0,Jaj];rfl
 |x::L=>by rw [Jbf,Jaf,List.length_append,Jb8 x,Jdp L]
end
theorem Jsn (L:List Nd) (x:Nd):preL (L++[x])=preL L++preN x:=by
 induction L with
 |nil=>rw [List.nil_append,Jbf,Jd0,List.append_nil,List.nil_append]
 |cons y L ih=>rw [List.cons_append,Jbf,Jbf,ih,List.append_assoc]
theorem Jma (L:List Nd) (x:Nd):countL (L++[x])=countL L+count x:=by
 induction L with
 |nil=>rw [List.nil_append,Jaf,Jaj];omega
 |cons y L ih=>rw [List.cons_append,Jaf,Jaf,ih];omega
theorem Jg9:∀L:List Nd,L.length≤countL L
 |[]=>Nat.zero_le _
 |x::L=>by
  have:=Jg9 L;rw [Jaf,List.length_cons,Jar];omega
theorem Jgr (n:Nd):1≤count n:=by rw [Jar];omega
def kidsL:Nat→List Nd→List Nat
 |_,[]=>[]
 |k,x::L=>k::kidsL (k+count x) L
theorem Jfa:∀(L:List Nd) (k:Nat),(kidsL k L).length=L.length
 |[],_=>rfl
 |x::L,k=>by rw [kidsL,List.length_cons,List.length_cons,Jfa L]
theorem Ji0:∀{L:List Nd} {k j:Nat},j<L.length→(kidsL k L)[j]?=some (k+countL (L.take j))
 |[],k,j,h=>by simp at h
 |x::L,k,0,_=>by rw [List.take_zero,Jaj];rfl
 |x::L,k,j+1,h=>by
  rw [kidsL,List.getElem?_cons_succ,Ji0 (L:=L) (k:=k+count x) (j:=j) (by simpa using h),List.take_succ_cons,Jaf];congr 1;omega
def aloneN:Nd→Nd
 | .mk K O N _ S E T=> .mk K O N [] S E T
structure Ent where
 x:Nd
 ids:List Nat
def entOf (k:Nat) (x:Nd):Ent:=⟨aloneN x,kidsL (k+1) x.I⟩
def ents:Nat→List Nd→List Ent
 |_,[]=>[]
 |k,x::L=>entOf k x::ents (k+1) L
theorem Jf2:∀(L:List Nd) (k:Nat),(ents k L).length=L.length
 |[],_=>rfl
 |x::L,k=>by rw [ents,List.length_cons,List.length_cons,Jf2 L]
theorem Jgn:∀(L M:List Nd) (k:Nat),ents k (L++M)=ents k L++ents (k+L.length) M
 |[],M,k=>by rw [List.nil_append,ents,List.nil_append];rfl
 |x::L,M,k=>by
  rw [List.cons_append,ents,Jgn L M,ents,List.cons_append,List.length_cons];rw [show k+1+L.length=k+(L.length+1) by omega]
theorem Jp4:∀{L:List Nd} {k j:Nat} {x:Nd},L[j]?=some x→(ents k L)[j]?=some (entOf (k+j) x)
 |[],k,j,x,h=>by simp at h
 |y::L,k,0,x,h=>by
  obtain rfl:y=x:=by simpa using h
  rfl
 |y::L,k,j+1,x,h=>by
  rw [ents,List.getElem?_cons_succ,Jp4 (L:=L) (k:=k+1) (j:=j) (by simpa using h)];rw [show k+1+j=k+(j+1) by omega]
def flatN (k:Nat) (n:Nd):List Ent:=ents k (preN n)
def flatL (k:Nat) (L:List Nd):List Ent:=ents k (preL L)
theorem Juj (k:Nat) (n:Nd):flatN k n=entOf k n::flatL (k+1) n.I:=by
 unfold flatN flatL;rw [Jgv,ents]
theorem Jrl (k:Nat):flatL k []=[]:=by unfold flatL;rw [Jd0];rfl
theorem Jo6 (k:Nat) (L:List Nd) (x:Nd):flatL k (L++[x])=flatL k L++flatN (k+countL L) x:=by
 unfold flatL flatN;rw [Jsn,Jgn,Jdp]
theorem Jj2 (k:Nat) (n:Nd):(flatN k n).length=count n:=by unfold flatN;rw [Jf2,Jb8]
end Go.Proofs.YtekekhgjobahaaaGreatDoor.tre

namespace Go.Proofs.YtekekhgjobahaaaGreatDoor.tre
open Go.RowKit words ext name

abbrev Sb:TypeId→Prop:=fun t=>t=198∨t=238
def Qs (w:World) (lo b:Nat):Prop:=lo≤b∧∃cs t,w.heap[b]?=some (.cells cs t (0,0))∧¬Sb t
theorem Qs.lt {w:World} {lo b:Nat} (h:Qs w lo b):b<w.heap.size:=by
 obtain⟨_,cs,t,h,_⟩:=h;exact lt_of_some h
theorem Qs.kept {B:Nat} {w w':World} {lo b:Nat} (h:Qs w lo b) (hk:words.Kept Sb B w w'):w'.heap[b]?=w.heap[b]?∧Qs w' lo b:=by
 obtain⟨h1,cs,t,h,hn⟩:=h;have e:=hk.blk h hn;exact⟨e.trans h.symm,h1,cs,t,e,hn⟩
theorem Qs.less {w:World} {lo lo' b:Nat} (h:Qs w lo b) (hl:lo'≤lo):Qs w lo' b:=⟨Nat.le_trans hl h.1,h.2⟩
def IntIn (w:World) (P:Nat→Prop) (A:Option Addr) (ids:List Nat):Prop:=
 ∀i (id:Nat),ids[i]?=some id→∃b off,A=some ⟨b,off,none⟩∧P b∧w.cell? ⟨b,off+i,none⟩=some (.int .i64 (id:Int))
theorem IntIn.keep {w w':World} {P P':Nat→Prop} {A:Option Addr} {ids:List Nat} (h:IntIn w P A ids) (hk:∀b,P b→w'.heap[b]?=w.heap[b]?∧P' b):IntIn w' P' A ids:=fun i id hi=>by
 obtain⟨b,off,h1,h2,h3⟩:=h i id hi;exact⟨b,off,h1,(hk b h2).2,(World.cell?_of_block (a:=⟨b,off+i,none⟩) (hk b h2).1).trans h3⟩
def entCells (x:Nd) (r:Raw) (A:Option Addr) (l c:Nat):List Value:=(rawCells x r).toList++[.slice A l c]
def EntAt (w:World) (P:Nat→Prop) (cs:List Value) (e:Ent) (i:Nat):Prop:=
 ∃r A c,NdIn w P e.x r∧IntIn w P A e.ids∧e.ids.length≤c∧∀j v,(entCells e.x r A e.ids.length c)[j]?=some v→cs[i*8+j]?=some v
def Ents (w:World) (P:Nat→Prop) (cs:List Value) (L:List Ent):Prop:=cs.length=L.length*8∧∀i e,L[i]?=some e→EntAt w P cs e i
theorem Ents.nil (w:World) (P:Nat→Prop):Ents w P [] []:=⟨rfl,fun i e h=>by simp at h⟩
theorem Ents.keep {w w':World} {P P':Nat→Prop} {cs:List Value} {L:List Ent} (h:Ents w P cs L) (hk:∀b,P b→w'.heap[b]?=w.heap[b]?∧P' b):Ents w' P' cs L:=⟨h.1,fun i e he=>by
  obtain⟨r,A,c,h1,h2,h3,h4⟩:=h.2 i e he;exact⟨r,A,c,h1.keep hk,h2.keep hk,h3,h4⟩⟩
theorem Ents.app {w:World} {P:Nat→Prop} {cs ds:List Value} {L M:List Ent} (h:Ents w P cs L) (k:Ents w P ds M):Ents w P (cs++ds) (L++M):=by
 refine⟨by rw [List.length_append,List.length_append,h.1,k.1];omega,fun i e he=>?_⟩;rcases Nat.lt_or_ge i L.length with hi |hi
 ·rw [List.getElem?_append_left hi] at he
  obtain⟨r,A,c,h1,h2,h3,h4⟩:=h.2 i e he;refine⟨r,A,c,h1,h2,h3,fun j v hj=>?_⟩;have h5:=h4 j v hj;rw [List.getElem?_append_left (List.getElem?_eq_some_iff.1 h5).1];exact h5
 ·rw [List.getElem?_append_right hi] at he
  obtain⟨r,A,c,h1,h2,h3,h4⟩:=k.2 _ e he;refine⟨r,A,c,h1,h2,h3,fun j v hj=>?_⟩;have h5:=h4 j v hj;rw [List.getElem?_append_right (by rw [h.1];omega),h.1,show i*8+j - L.length*8=(i - L.length)*8+j by omega];exact h5
theorem Ents.one {w:World} {P:Nat→Prop} {e:Ent} {r:Raw} {A:Option Addr} {c:Nat} (h1:NdIn w P e.x r) (h2:IntIn w P A e.ids) (h3:e.ids.length≤c):Ents w P (entCells e.x r A e.ids.length c) [e]:=
 ⟨rfl,fun i f hf=>by
   have hi:i=0:=by have:=(List.getElem?_eq_some_iff.1 hf).1;simp at this;omega
   subst hi;obtain rfl:e=f:=by simpa using hf
   exact⟨r,A,c,h1,h2,h3,fun j v hj=>by rw [Nat.zero_mul,Nat.zero_add];exact hj⟩⟩

theorem Ja4 {S:TypeId→Prop} {B:Nat} {a w:World} {p:Addr} (h:words.Kept S B a w) (hp:a.heap.size≤p.block) (u:Value):words.Kept S B a (w.setCell p u):=
 ⟨h.os,h.tape,h.output,by simpa [World.setCell] using h.size,fun k hk hc=>(Below.heap_setCell w p u k (by omega)).trans (h.block k hk hc)⟩
theorem Jvf {w:World} {B n c:Nat} {A:Option Addr} {N:List ByteArray} (h:w.ownsRow B 9 1 (.slice A n c) n (N.map Value.string)) (hs:∀(i:Nat) (x:ByteArray),N[i]?=some x→x.size≤140737488355328):TxtIn w (Qs w B) A N:=fun i x hx=>by
 obtain⟨g,cur,h1,h2,h3,h4,h5⟩:=own_cell h (j:=i) (u:= .string x) (by rw [List.getElem?_map,hx];rfl);exact⟨⟨g,0,h1,⟨h2,cur,_,h4,by decide⟩,by rw [Nat.zero_add];exact h5⟩,hs i x hx⟩
theorem Jvk {w:World} {B n c:Nat} {A:Option Addr} {L:List Ex} (h:w.ownsRow B 131 2 (.slice A n c) n (exCells L)) (hs:∀(i:Nat) (x:Ex),L[i]?=some x→ -9223372036854775808≤x.O∧x.O≤9223372036854775807∧x.D.size≤140737488355328):ExtIn w (Qs w B) A L:=fun i x hx=>by
 obtain⟨e0,e1⟩:=Jb7 hx;obtain⟨g,cur,h1,h2,h3,h4,h5⟩:=own_cell h e0;obtain⟨g',_,h1',_,_,_,h5'⟩:=own_cell h e1;rw [h1] at h1';injection h1' with h1';injection h1' with h1';subst h1';exact⟨⟨g,0,h1,⟨h2,cur,_,h4,by decide⟩,by rw [Nat.zero_add];exact h5,by rw [Nat.zero_add];exact h5'⟩,hs i x hx⟩

def Alone (n:Nd) (w:World) (e:Ending) (w':World):Prop:=∃r',e= .returned (ndV (aloneN n) r')∧NdIn w' (Qs w' w.heap.size) (aloneN n) r'∧Below w.heap.size w w'
theorem fitAlone {n:Nd} {r:Raw} (h:Fit n r) (A A':Option Addr) (c c':Nat) (h1:n.N.length≤c) (h2:A=none→n.N.length=0∧c=0) (h3:n.E.length≤c') (h4:A'=none→n.E.length=0∧c'=0):Fit (aloneN n) ⟨A,c,none,0,A',c'⟩:=by
 cases n;exact⟨h.k1,h.k2,h.s1,h.s2,h.t,h.ln,show 0*112≤140737488355328 by decide,h.le,h1,Nat.zero_le _,h3,h2,fun _=>⟨rfl,rfl⟩,h4⟩
theorem Jn3 {w:World} {P:Nat→Prop} {n:Nd} {A A':Option Addr} {c c':Nat} (hf:Fit (aloneN n) ⟨A,c,none,0,A',c'⟩) (h1:TxtIn w P A n.N) (h2:ExtIn w P A' n.E):NdIn w P (aloneN n) ⟨A,c,none,0,A',c'⟩:=by
 cases n;exact .mk (fun _=>raw0) hf h1 h2 (fun _ _ hx=>(Jba hx).elim) (fun _ _ hx=>(Jba hx).elim)
theorem Js4 (n:Nd) (r:Raw) (w:World) (hN:NdAt w w.heap.size n r):Calls prog 153 #[ndV n r] w (Alone n w):=by
 have fit:=hN.fit;have HFit:=Lib.hid fit;obtain⟨W1,hW1⟩:=words.nm ((w.alloc (.cells (rawCells n r) 46)).alloc (.cells (rawCells nd0 raw0) 46));have hT:=Two.new w n r nd0 raw0;rw [←hW1] at hT;have HT:=Lib.hid hT;have HN:=Lib.hid (hN.later hT.b);have hz1:w.heap.size+1<W1.heap.size:=hT.y.lt;have hW1':W1=(w.alloc (.cells #[.int .i64 n.K,.bool n.O,.slice r.An n.N.length r.cn,.slice r.Ai n.I.length r.ci,.int .i64 n.S,.slice r.Ae n.E.length r.ce,.string n.T] 46)).alloc (.cells #[.int .i64 0,.bool false,.slice none 0 0,.slice none 0 0,.int .i64 0,.slice none 0 0,.string ⟨#[]⟩] 46):=hW1;have HW1:=Lib.hid hW1';have HC1:=Lib.hid ((Jno r.An n.N.length r.cn _ W1.drew (Jt9 HN.out.names) fit.zn fit.ln (by rw [List.length_map,Nat.mul_one]) (Jkh n.N)).mono fun _ _ h=>Jvr h);have HC2:Hid (∀w':World,Below W1.heap.size W1 w'→Calls prog 183 #[.slice r.Ae n.E.length r.ce] w' (Copied 131 2 n.E.length (exCells n.E) w')):=Lib.hid fun w' hb=>
  Jtj r.Ae n.E.length r.ce _ w' (Jti (HN.out.later hb).exts) HFit.out.ze HFit.out.le (Jbx n.E) (Jk5 n.E)
 clear hN hT hW1 hW1' fit;unfold ndV rawCells;go_enter func153,ntmps153
 go_upto_region 1 with fail
 rw [←HW1.out];obtain⟨b0,b1,b2,b3,b4,b5,b6⟩:=HT.out.x.cells;clear HW1;go_region_law (first
   |(go_simp;go_at_call 88;refine HC1.out.mono ?_;rintro e w2 ⟨A3,c3,rfl,h31,h32,ho3,hb2⟩;have hb12:Below W1.heap.size W1 w2:=(Below.refl W1.heap.size W1).drew.trans hb2;obtain⟨m0,m1,m2,m3,m4,m5,m6⟩:=(HT.out.x.below hb12).cells)
   |(go_simp;go_at_call 183;refine ((HC2.out _ hb12).mono fun _ _ h=>Jvr h).mono ?_;rintro e w4 ⟨A4,c4,rfl,h41,h42,ho4,hb4⟩;have hx4:=(HT.out.x.below hb12).below hb4;have f2:=Jab hx4 2;have f3:=Jab hx4 3;have f5:=Jab hx4 5;obtain⟨l0,l1,l2,l3,l4,l5,l6⟩:=hx4.cells))
 all_goals
  have hb14:Below W1.heap.size W1 w4:=hb12.trans (hb4.mono hb12.size);have hB4:Below w.heap.size w w4:=HT.out.b.trans (hb14.mono HT.out.b.size);have hs12:=hb12.size;have hs4:=hb4.size;obtain⟨W5,hW5⟩:=words.nm (((w4.setCell ⟨w.heap.size,2,none⟩ (.slice A3 n.N.length c3)).setCell ⟨w.heap.size,3,none⟩ (.slice none 0 0)).setCell ⟨w.heap.size,5,none⟩ (.slice A4 n.E.length c4));have hx5:Box W5 w.heap.size (aloneN n) ⟨A3,c3,none,0,A4,c4⟩:=by
   have h1:=heap_setCell_same w4 w.heap.size 2 _ _ (.slice A3 n.N.length c3) hx4;have h2:=heap_setCell_same _ w.heap.size 3 _ _ (.slice none 0 0) h1;have h3:=heap_setCell_same _ w.heap.size 5 _ _ (.slice A4 n.E.length c4) h2;rw [hW5];refine h3.trans ?_;cases n;rfl
  have hfr:∀b,b≠w.heap.size→W5.heap[b]?=w4.heap[b]?:=fun b hb=>by
   rw [hW5];exact (Below.heap_setCell _ ⟨w.heap.size,5,none⟩ _ b hb).trans ((Below.heap_setCell _ ⟨w.heap.size,3,none⟩ _ b hb).trans (Below.heap_setCell _ ⟨w.heap.size,2,none⟩ _ b hb))
  have hB5:Below w.heap.size w W5:=by
   rw [hW5];exact ((hB4.setCell (p:=⟨w.heap.size,2,none⟩) (Nat.le_refl _) _).setCell (p:=⟨w.heap.size,3,none⟩) (Nat.le_refl _) _).setCell (p:=⟨w.heap.size,5,none⟩) (Nat.le_refl _) _
  have hy5:Box W5 (w.heap.size+1) nd0 raw0:=(hfr _ (by omega)).trans ((HT.out.y.below hb12).below hb4);have hsz5:W5.heap.size=w4.heap.size:=by rw [hW5];simp [World.setCell]
  have z0:=Jab hy5 0;have z1:=Jab hy5 1;have z2:=Jab hy5 2;have z3:=Jab hy5 3;have z4:=Jab hy5 4;have z5:=Jab hy5 5;have z6:=Jab hy5 6;obtain⟨d0,d1,d2,d3,d4,d5,d6⟩:=hy5.cells;have hob:=hy5.over (m:=aloneN n) (q:=⟨A3,c3,none,0,A4,c4⟩);have hsz6:=size_setCells (w.heap.size+1) (rawCells (aloneN n) ⟨A3,c3,none,0,A4,c4⟩).toList 0 W5;have hBd:=below_setCells (w:=w) (B:=w.heap.size) (g:=w.heap.size+1) (Nat.le_succ _) (rawCells (aloneN n) ⟨A3,c3,none,0,A4,c4⟩).toList 0 W5 hB5;obtain⟨Wd,hWd⟩:=words.nm (W5.setCells (w.heap.size+1) 0 (rawCells (aloneN n) ⟨A3,c3,none,0,A4,c4⟩).toList);rw [←hWd] at hob hsz6 hBd;have hfd:∀b,W1.heap.size≤b→b<w4.heap.size→Wd.heap[b]?=w4.heap[b]?:=fun b k1 k2=>by
   rw [hWd];exact (World.heap_setCells_other W5 _ _ _ (by omega) (by omega)).trans (hfr b (by omega))
  have hQ:∀(b:Nat) (wx:World),Below wx.heap.size wx w4→Qs wx W1.heap.size b→Wd.heap[b]?=wx.heap[b]?∧Qs Wd w.heap.size b:=fun b wx hbx hq=>by
   obtain⟨k1,cs,t,k2,k3⟩:=hq;have hlt:=lt_of_some k2;have e:=(hfd b k1 (Nat.lt_of_lt_of_le hlt hbx.size)).trans (hbx.block b hlt);exact⟨e,by omega,cs,t,e.trans k2,k3⟩
  have hNm:TxtIn Wd (Qs Wd w.heap.size) A3 n.N:=(Jvf (B:=W1.heap.size) ho3 fun i x hx=>(HN.out.names i x hx).2).keep fun b hb=>hQ b w2 hb4 hb;have hEx:ExtIn Wd (Qs Wd w.heap.size) A4 n.E:=(Jvk (B:=w2.heap.size) ho4 fun i x hx=>(HN.out.exts i x hx).2).keep fun b hb=>hQ b w4 (Below.refl _ _) (hb.less hs12);have hND:=Jn3 (fitAlone HFit.out A3 A4 c3 c4 h31 h32 h41 h42) hNm hEx;have hWd':=(Jv1 W5 (w.heap.size+1) (aloneN n) ⟨A3,c3,none,0,A4,c4⟩).trans hWd.symm;have HND:=Lib.hid hND;have HBd:=Lib.hid hBd;have HWd:=Lib.hid hWd';have HOb:=Lib.hid hob;clear hNm hEx hND hBd hWd hWd' hob hQ hfd hB5 hfr hB4 hb14 hs12 hs4 hx4 hb12 hb4 ho3 ho4 h31 h32 h41 h42 b0 b1 b2 b3 b4 b5 b6 m0 m1 m2 m3 m4 m5 m6 l0 l1 l2 l3 l4 l5 l6 HC1 HC2 f2 f3 f5;rw [←hW5];clear hW5;obtain⟨b0,b1,b2,b3,b4,b5,b6⟩:=hx5.cells;go_wp2_with fail
  rw [HWd.out];obtain⟨p0,p1,p2,p3,p4,p5,p6⟩:=HOb.out.cells;exact bodyPost_ret (v:=ndV (aloneN n) ⟨A3,c3,none,0,A4,c4⟩) (by unfold ndV rawCells;simp [results,results153,go_sem,p0,p1,p2,p3,p4,p5,p6]) rfl ⟨_,rfl,HND.out,HBd.out⟩

def Tb (w:World) (B g:Nat) (v:Value) (m:Nat) (cs:List Value):Prop:=
 B≤g∧w.heap[g]?=some (.cells #[v] 198 (0,0))∧w.ownsRow B 238 8 v m cs
theorem Tb.frame {w w':World} {B g m:Nat} {v:Value} {cs:List Value} (h:Tb w B g v m cs) (hk:∀k,k<w.heap.size→w'.heap[k]?=w.heap[k]?):Tb w' B g v m cs:=by
 obtain⟨h1,h2,h3⟩:=h;refine⟨h1,(hk g (lt_of_some h2)).trans h2,h3.1,?_⟩;rcases h3.2 with h0 |⟨b,cap,cur,e1,e2,e3,e4⟩
 ·exact .inl h0
 ·exact .inr ⟨b,cap,cur,e1,e2,(hk b (lt_of_some e3)).trans e3,e4⟩
theorem Tb.later {w w':World} {B g m:Nat} {v:Value} {cs:List Value} (h:Tb w B g v m cs) (hb:Below w.heap.size w w'):Tb w' B g v m cs:=h.frame hb.block
theorem Tb.alloc {w:World} {B g m:Nat} {v:Value} {cs:List Value} (h:Tb w B g v m cs) (o:Obj):Tb (w.alloc o) B g v m cs:=h.frame fun k hk=>Below.heap_alloc w o k hk
theorem Tb.stay {w w1:World} {B g m:Nat} {v:Value} {cs:List Value} (h:Tb w B g v m cs) (hg:w.grownBy w1 v.ownBlock):w1.heap[g]?=some (.cells #[v] 198 (0,0)):=(hg.block g (lt_of_some h.2.1) (fun e=>Jap h.2.2 h.2.1 (by decide) e.symm)).trans h.2.1
theorem Tb.int {w:World} {B g m:Nat} {v:Value} {cs:List Value} (h:Tb w B g v m cs) {gi j:Nat} {cur:Array Value} (hi:w.heap[gi]?=some (.cells cur 3 (0,0))) (u:Value):Tb (w.setCell ⟨gi,j,none⟩ u) B g v m cs:=
 ⟨h.1,(Below.heap_setCell w ⟨gi,j,none⟩ u g (Jas h.2.1 hi (by decide))).trans h.2.1,Jad h.2.2 (Jap h.2.2 hi (by decide)) u⟩
theorem Tb.put {w w1:World} {B g m:Nat} {v v':Value} {cs news:List Value} (h:Tb w B g v m cs) (hown:w1.ownsRow B 238 8 v' (m+1) (cs++news)) (hg:w.grownBy w1 v.ownBlock):
  Tb (w1.setCell ⟨g,0,none⟩ v') B g v' (m+1) (cs++news)∧words.Kept Sb B w (w1.setCell ⟨g,0,none⟩ v'):=by
 obtain⟨h1,h2,h3⟩:=h;have hb1:w1.heap[g]?=some (.cells #[v] 198 (0,0)):=(hg.block g (lt_of_some h2) (fun e=>Jap h3 h2 (by decide) e.symm)).trans h2;refine⟨⟨h1,Jbo hb1 v',Jad hown (Jap hown hb1 (by decide)) v'⟩,?_⟩;exact ((words.Kept.refl Sb B w).grown hg h3 (Nat.le_refl _) (.inr rfl)).setCell h1 ⟨_,_,_,hb1,.inl rfl⟩ v'
def Added (B:Nat) (n:Nd) (g m:Nat) (cs:List Value) (w:World) (e:Ending) (w':World):Prop:=
 ∃v' ds,e= .returned (.int .i64 (m:Int))∧Tb w' B g v' (m+count n) (cs++ds)∧Ents w' (Qs w' w.heap.size) ds (flatN m n)∧words.Kept Sb B w w'
structure Lp (w:World) (B:Nat) (n:Nd) (r':Raw) (g gi m j:Nat) (cs E0:List Value) (wr:World) (v:Value) (ds:List Value):Prop where
 tb:Tb wr B g v (m+1+countL (n.I.take j)) (cs++(E0++ds))
 en:Ents wr (Qs wr (gi+1)) ds (flatL (m+1) (n.I.take j))
 nd:NdIn wr (Qs wr (gi+1)) (aloneN n) r'
 ints:∃cur:Array Value,wr.heap[gi]?=some (.cells cur 3 (0,0))∧cur.size=n.I.length∧∀i,i<j→cur[i]?=some (.int .i64 ((m+1+countL (n.I.take i):Nat):Int))
 kept:words.Kept Sb B w wr
theorem infoInt:(Tryz.prog.info? 3).map (fun i=>(i.zero,i.size,i.bytes))=some (some (.int .i64 0),1,8):=by kernel_rfl
theorem infoBn:(Tryz.prog.info? 238).map (fun i=>(i.zero,i.size,i.bytes))=some (some (.agg #[.int .i64 0,.bool false,.slice none 0 0,.slice none 0 0,.int .i64 0,.slice none 0 0,.string ⟨#[]⟩,.slice none 0 0]),8,136):=by kernel_rfl
theorem Ji6 (x:Nd) (r:Raw) (A:Option Addr) (l c:Nat):∀u∈entCells x r A l c,u.oneCell'=true:=fun u hu=>by
 rcases List.mem_append.1 hu with h |h
 ·have:=Je8 [x] (fun _=>r)
  rw [rowCells,rowCells,List.append_nil] at this;exact this u h
 ·rw [List.mem_singleton.1 h];rfl
theorem Lp.int {w wr:World} {B:Nat} {n:Nd} {r':Raw} {g gi m j:Nat} {cs E0 ds dx:List Value} {v v6:Value} {x:Nd} {W5 w6:World} (h:Lp w B n r' g gi m j cs E0 wr v ds) (hx:n.I[j]?=some x) (hgi:w.heap.size≤gi)
  (h5:Below wr.heap.size wr W5) (k6:words.Kept Sb B W5 w6) (t6:Tb w6 B g v6 (m+1+countL (n.I.take j)+count x) (cs++(E0++ds)++dx)) (e6:Ents w6 (Qs w6 W5.heap.size) dx (flatN (m+1+countL (n.I.take j)) x)):
  Lp w B n r' g gi m (j+1) cs E0 (w6.setCell ⟨gi,j,none⟩ (.int .i64 ((m+1+countL (n.I.take j):Nat):Int))) v6 (ds++dx)∧(∃cur:Array Value,w6.heap[gi]?=some (.cells cur 3 (0,0))∧cur.size=n.I.length):=by
 obtain⟨cur,c1,c2,c3⟩:=h.ints;have hlt:=(List.getElem?_eq_some_iff.1 hx).1;have k56:words.Kept Sb B wr w6:=(words.Kept.of_below h5 Sb B).trans k6;have hi6:w6.heap[gi]?=some (.cells cur 3 (0,0)):=k56.blk c1 (by decide);have htk:n.I.take (j+1)=n.I.take j++[x]:=take_at hx;have hgi5:gi+1≤W5.heap.size:=Nat.le_trans (lt_of_some c1) h5.size;obtain⟨w7,hw7⟩:=words.nm (w6.setCell ⟨gi,j,none⟩ (.int .i64 ((m+1+countL (n.I.take j):Nat):Int)));have q7:∀b,Qs w6 (gi+1) b→w7.heap[b]?=w6.heap[b]?∧Qs w7 (gi+1) b:=fun b hq=>by
  obtain⟨k1,cs',t,k2,k3⟩:=hq;have e:w7.heap[b]?=w6.heap[b]?:=by rw [hw7];exact Below.heap_setCell w6 ⟨gi,j,none⟩ _ b (show b≠gi by omega)
  exact⟨e,k1,cs',t,e.trans k2,k3⟩
 have q67:∀b,Qs wr (gi+1) b→w7.heap[b]?=wr.heap[b]?∧Qs w7 (gi+1) b:=fun b hq=>by
  have a:=hq.kept k56;have b':=q7 b a.2;exact⟨b'.1.trans a.1,b'.2⟩
 rw [←hw7];refine⟨⟨?_,?_,h.nd.keep q67,?_,?_⟩,cur,hi6,c2⟩
 ·have e1:m+1+countL (n.I.take (j+1))=m+1+countL (n.I.take j)+count x:=by rw [htk,Jma];omega
  rw [e1,hw7,←List.append_assoc,←List.append_assoc,List.append_assoc cs E0 ds];exact t6.int hi6 _
 ·rw [htk,Jo6]
  exact (h.en.keep q67).app (e6.keep fun b hb=>q7 b (hb.less hgi5))
 ·have hi7:w7.heap[gi]?=some (.cells (cur.setIfInBounds j (.int .i64 ((m+1+countL (n.I.take j):Nat):Int))) 3 (0,0)):=by rw [hw7];exact heap_setCell_same w6 gi j _ _ _ hi6
  refine⟨_,hi7,by rw [Array.size_setIfInBounds];exact c2,fun i hij=>?_⟩;by_cases e:i=j
  ·subst e
   rw [Array.getElem?_setIfInBounds_self_of_lt (by omega)]
  ·rw [Array.getElem?_setIfInBounds_ne (by omega)]
   exact c3 i (by omega)
 ·rw [hw7]
  exact Ja4 (h.kept.trans k56) hgi _
theorem Jhr:∀{L:List Nd} {j:Nat} {x:Nd},L[j]?=some x→countL (L.take j)+count x≤countL L
 |[],j,x,h=>by simp at h
 |y::L,0,x,h=>by
  obtain rfl:y=x:=by simpa using h
  rw [List.take_zero,Jaj,Jaf];omega
 |y::L,j+1,x,h=>by
  have:=Jhr (L:=L) (j:=j) (x:=x) (by simpa using h);rw [List.take_succ_cons,Jaf,Jaf];omega
theorem Lp.done {w wr:World} {B:Nat} {n:Nd} {r':Raw} {g gi m:Nat} {cs ds:List Value} {v:Value} (h:Lp w B n r' g gi m n.I.length cs (entCells (aloneN n) r' (some ⟨gi,0,none⟩) n.I.length n.I.length) wr v ds) (hgi:w.heap.size≤gi):
  Added B n g m cs w (.returned (.int .i64 (m:Int))) wr:=by
 have hz:n.I.take n.I.length=n.I:=List.take_length;have htb:=h.tb;have hen:=h.en;rw [hz] at htb hen;obtain⟨cur,c1,c2,c3⟩:=h.ints;refine⟨v,entCells (aloneN n) r' (some ⟨gi,0,none⟩) n.I.length n.I.length++ds,rfl,?_,?_,h.kept⟩
 ·rw [Jar,←Nat.add_assoc]
  exact htb
 ·have hl:(kidsL (m+1) n.I).length=n.I.length:=Jfa _ _
  have h1:=Ents.one (w:=wr) (P:=Qs wr w.heap.size) (e:=entOf m n) (r:=r') (A:=some ⟨gi,0,none⟩) (c:=n.I.length) (h.nd.keep fun b hb=>⟨rfl,hb.less (by omega)⟩)
   (fun i id hid=>by
     have hlt:i<n.I.length:=by rw [←hl];exact (List.getElem?_eq_some_iff.1 hid).1
     have e:=Ji0 (k:=m+1) hlt;rw [show (entOf m n).ids=kidsL (m+1) n.I from rfl,e] at hid;obtain rfl:=Option.some.inj hid;exact⟨gi,0,rfl,⟨hgi,cur,_,c1,by decide⟩,by rw [Nat.zero_add,Jaa c1 i];exact c3 i hlt⟩)
   (by rw [show (entOf m n).ids=kidsL (m+1) n.I from rfl,hl];exact Nat.le_refl _)
  rw [show (entOf m n).ids=kidsL (m+1) n.I from rfl,hl] at h1;rw [Juj];exact h1.app (hen.keep fun b hb=>⟨rfl,hb.less (by omega)⟩)
theorem Jya (W0:World) (B:Nat):∀(k:Nat) (n:Nd) (r:Raw) (w:World) (g:Nat) (v:Value) (m:Nat) (cs:List Value),depth n<k→NdAt W0 B n r→Below B W0 w→Tb w B g v m cs→m+count n≤4096→
  Calls prog 119 #[.pointer (some ⟨g,0,none⟩),ndV n r] w (Added B n g m cs w):=by
 intro k
 induction k with
 |zero=>intro n r w g v m cs hk;omega
 |succ k ih=>
  intro n r w g v m cs hk hN hb hT hmc;have IH:=Lib.hid ih;have HN:=Lib.hid hN;have hdn:=Jah n;have hdk:depthL n.I≤k:=by omega
  have hcn:=Jar n;have fit:=hN.fit;have f2:=fit.li;have hlk:n.I.length≤4096:=by
   have:=Jg9 n.I;omega
  have hBw:B<w.heap.size:=Nat.lt_of_le_of_lt hT.1 (lt_of_some hT.2.1);obtain⟨W1,hW1⟩:=words.nm (w.alloc (.cells (rawCells n r) 46));have hb1:=words.b1 hW1;have hx1:Box W1 w.heap.size n r:=by rw [hW1];exact Box.new w n r
  have hT1:=hT.later hb1;have hz1:W1.heap.size=w.heap.size+1:=by rw [hW1];simp
  obtain⟨i0,hi,hz0,hy1,hy2⟩:=info_parts infoInt;have hmk:∀u:World,(Instr.makeSlice 29 (.int .i64 (n.I.length:Int)) (.int .i64 (n.I.length:Int))).run prog u=
    .ok (.slice (some ⟨u.heap.size,0,none⟩) n.I.length n.I.length) (u.alloc (.cells (madeCells #[.int .i64 0] n.I.length) 3)):=fun u=>by
   have h:=run_make (P:=prog) u 29 3 i0 (.int .i64 0) underlying29 hi hz0 .i64 .i64 (n.I.length:Int) (n.I.length:Int) (by omega) (Int.le_refl _) (by rw [hy2];omega) (by omega);simpa [hy1,Value.cells] using h
  obtain⟨M,hM⟩:=words.nm (madeCells #[.int .i64 0] n.I.length);rw [←hM] at hmk;have hMs:M.size=n.I.length:=by rw [hM,←Array.length_toList,toList_madeCells_one,List.length_replicate]
  have hvl:∃A c,v= .slice A m c:=by obtain⟨A,c,h1,_⟩:=own_facts hT.2.2;exact⟨A,c,h1⟩
  obtain⟨Av,cv,rfl⟩:=hvl;have cg:W1.cell? ⟨g,0,none⟩=some (.slice Av m cv):=Jaa hT1.2.1 0;obtain⟨b0,b1,b2,b3,b4,b5,b6⟩:=hx1.cells;have HT1:=Lib.hid hT1;have HX1:=Lib.hid hx1;have HB1:=Lib.hid hb1;have HB:=Lib.hid hb;unfold rawCells at hW1;have HW1:=Lib.hid hW1;have HMs:=Lib.hid hMs;clear hN hb hT hW1 hT1 hx1 hb1 hdn hM hi hz0 hy1 hy2 fit ih hMs;unfold ndV rawCells;go_enter func119,ntmps119
  go_upto_region 1 with fail
  rw [←HW1.out];go_region_held3 (fun w'=>w'.cell? ⟨g,0,none⟩=some (.slice Av m cv)∧w'.cell? ⟨w.heap.size,3,none⟩=some (.slice r.Ai n.I.length r.ci))
   (go_keep)
   (fail)
  obtain⟨W2,hW2⟩:=words.nm ((W1.alloc (.cells M 3)).drew);have hb12:Below W1.heap.size W1 W2:=by rw [hW2];exact ((Below.refl _ _).alloc (Nat.le_refl _) _).drew
  have hi2:W2.heap[w.heap.size+1]?=some (.cells M 3 (0,0)):=by rw [hW2,←hz1];exact heap_alloc_new W1 _
  have hx2:=HX1.out.below hb12;have hT2:=HT1.out.later hb12;have hb2:Below w.heap.size w W2:=HB1.out.trans (hb12.mono HB1.out.size);have hbW:Below B W0 W2:=HB.out.trans (hb2.mono (by omega));have hz2:W2.heap.size=w.heap.size+2:=by rw [hW2];show (W1.alloc _).heap.size=_;simp [hz1]
  have hN2:NdAt W2.drew W2.drew.heap.size n r:=(HN.out.keep hbW.drew).more (by show B≤W2.heap.size;omega);obtain⟨a,ha⟩:=words.nm (aloneN n);have hA:Calls prog 153 #[ndV n r] W2.drew fun e w3=>∃r',e= .returned (.agg #[.int .i64 a.K,.bool a.O,.slice r'.An a.N.length r'.cn,.slice r'.Ai a.I.length r'.ci,.int .i64 a.S,.slice r'.Ae a.E.length r'.ce,.string a.T])∧NdIn w3 (Qs w3 (w.heap.size+2)) a r'∧Below W2.heap.size W2 w3:=(Js4 n r W2.drew hN2).mono fun e w3 ⟨r',h1,h2,h3⟩=>by
   refine⟨r',?_,?_,(Below.refl W2.heap.size W2).drew.trans h3⟩
   ·rw [h1,ha];rfl
   ·rw [ha,←hz2];exact h2
  obtain⟨i1,hi',hw0,hw1,hw2⟩:=info_parts infoBn;have HA:=Lib.hid hA;unfold ndV rawCells at HA;have HT2:=Lib.hid hT2;have HX2:=Lib.hid hx2;have HI2:=Lib.hid hi2;have HB2:=Lib.hid hb2;have HW2:=Lib.hid hW2;have HZ1:=Lib.hid hz1;have HZ2:=Lib.hid hz2;have Ha:=Lib.hid ha;clear hb12 hi2 hx2 hT2 hb2 hbW hN2 hA hW2 hmk hz1 hz2 ha b0 b1 b2 b3 b4 b5 b6 cg HX1 HT1 HW1 HB1;rw [←HW2.out];obtain⟨b0,b1,b2,b3,b4,b5,b6⟩:=HX2.out.cells;have cg:W2.cell? ⟨g,0,none⟩=some (.slice Av m cv):=Jaa HT2.out.2.1 0;go_upto_region 2 with fail
  go_region_law (first
    |(go_simp;go_at_call 153;refine HA.out.mono ?_;rintro e w3 ⟨r',rfl,hn3,hb3⟩;have hT3:=HT2.out.later hb3;obtain⟨m0,m1,m2,m3,m4,m5,m6⟩:=(HX2.out.below hb3).cells;have cg3:=Jaa hT3.2.1 0;have cgA:∀o:Obj,(w3.alloc o).cell? ⟨g,0,none⟩=some (.slice Av m cv):=fun o=>Jaa (hT3.alloc o).2.1 0;have hB3:=Nat.le_trans (Nat.le_of_eq HZ2.out.symm) hb3.size)
    |(refine step_append_lies _ (by rfl) _ _ _ (by rfl) B 238 i1 _ 8 136 underlying196 hi' hw0 hw1 hw2 rfl (by omega) (.slice Av m cv) m cs (by rfl) (hT3.2.2.alloc _)
          ⟨w3.heap.size,0,none⟩ 1 1 (entCells a r' (some ⟨w.heap.size+1,0,none⟩) n.I.length n.I.length) (by rfl) (by rfl) (World.news_of_block (cs:=(entCells a r' (some ⟨w.heap.size+1,0,none⟩) n.I.length n.I.length).toArray) (t:=238) (fr:=(0,0)) (heap_alloc_new w3 _)) (Ji6 _ _ _ _ _)
          (by omega) (by simp only [maxLen];omega) (by omega) (by simp;omega) (w3.heap.size+1) (by simp) ?_;intro gg cap w5 hown5 hgrow5 hat5 hlt5;have hg5:=(hT3.alloc _).stay hgrow5;have hc5:=Jaa hg5 0;have hf5:=Jab hg5 0))
  all_goals
   have hP:=(hT3.alloc _).put hown5 hgrow5;obtain⟨W6,hW6⟩:=words.nm (w5.setCell ⟨g,0,none⟩ (.slice (some ⟨gg,0,none⟩) (m+1) cap));rw [←hW6] at hP ⊢;obtain⟨hT6,k6⟩:=hP;obtain⟨o6,ho6⟩:∃o6:Obj,o6= .cells (entCells a r' (some ⟨w.heap.size+1,0,none⟩) n.I.length n.I.length).toArray 238 (0,0):=⟨_,rfl⟩
   have hk6:words.Kept Sb B (w3.alloc o6) W6:=by rw [ho6];exact k6
   have ha3:Below w3.heap.size w3 (w3.alloc o6):=(Below.refl _ _).alloc (Nat.le_refl _) _;have h23:Below W2.heap.size W2 (w3.alloc o6):=hb3.trans (ha3.mono hb3.size);have hbx6:Box W6 w.heap.size n r:=hk6.blk (HX2.out.below h23) (by decide);have hi6:W6.heap[w.heap.size+1]?=some (.cells M 3 (0,0)):=hk6.blk ((h23.block _ (lt_of_some HI2.out)).trans HI2.out) (by decide);have hn6:NdIn W6 (Qs W6 (w.heap.size+2)) a r':=hn3.keep fun b hq=>by
    obtain⟨k1,cs',t,k2,k3⟩:=hq;have e:=ha3.block b (lt_of_some k2);have q:Qs (w3.alloc o6) (w.heap.size+2) b:=⟨k1,cs',t,e.trans k2,k3⟩
    exact⟨(q.kept hk6).1.trans e,(q.kept hk6).2⟩
   have hkw:words.Kept Sb B w W6:=(words.Kept.of_below (HB2.out.trans (h23.mono HB2.out.size)) Sb B).trans hk6;have hlp:Lp w B n r' g (w.heap.size+1) m 0 cs (entCells a r' (some ⟨w.heap.size+1,0,none⟩) n.I.length n.I.length) W6 (.slice (some ⟨gg,0,none⟩) (m+1) cap) []:=by
    refine⟨?_,?_,?_,⟨M,hi6,HMs.out,fun i hi=>by omega⟩,hkw⟩
    ·rw [List.take_zero,Jaj,List.append_nil]
     exact hT6
    ·rw [List.take_zero,Jrl]
     exact Ents.nil _ _
    ·rw [←Ha.out]
     exact hn6
   have HLp:=Lib.hid hlp;have HBx:=Lib.hid hbx6;have hkl:=hkw.size;clear hT3 m0 m1 m2 m3 m4 m5 m6 cg3 cgA hB3 hown5 hgrow5 hat5 hlt5 hg5 hc5 hf5 hT6 k6 hW6 ho6 hk6 ha3 h23 hbx6 hi6 hn6 hkw hlp b0 b1 b2 b3 b4 b5 b6 cg HA HT2 HX2 HI2 HB2 HW2 hi' hw0 hw1 hw2 hn3 hb3;obtain⟨b0,b1,b2,b3,b4,b5,b6⟩:=HBx.out.cells;go_upto_region 3 with fail
   go_wp2_with fail
   go_loopw [34] (fun v34 wr=>∃(j:Nat) (vj:Value) (ds:List Value),j≤n.I.length∧v34= .int .i64 j∧Hid (Lp w B n r' g (w.heap.size+1) m j cs (entCells a r' (some ⟨w.heap.size+1,0,none⟩) n.I.length n.I.length) wr vj ds)) (fun v34 _=>n.I.length - (intOf v34).toNat)
   case atStart=>exact⟨0,_,_,Nat.zero_le _,rfl,HLp⟩
   case round=>
    obtain⟨j,vj,ds,hj,rfl,HL⟩:=hrel;by_cases hlt:j<n.I.length
    ·obtain⟨x,hx⟩:∃x,n.I[j]?=some x:=⟨_,List.getElem?_eq_getElem hlt⟩
     have hbr:Below B W0 wr:=HB.out.trans (HL.out.kept.below (by omega));obtain⟨rx,hrx,b,off,hA,hBb,c0,c1,c2,c3,c4,c5,c6⟩:=HN.out.entry hx hbr;have i0':(0:Int)≤(j:Int):=by omega
     have i1':(j:Int)<(n.I.length:Int):=by omega
     obtain⟨W7,hW7⟩:=words.nm (wr.alloc (.cells (rawCells x rx) 46));have hb7:Below wr.heap.size wr W7:=words.b1 hW7;have hx7:Box W7 wr.heap.size x rx:=by rw [hW7];exact Box.new wr x rx
     have hsr:=hkl;have hwr:=HL.out.kept.size;have hbr7:Below B W0 W7:=hbr.trans (hb7.mono (by omega));obtain⟨mj,hmj⟩:=words.nm (m+1+countL (n.I.take j));have hct:=Jhr hx;have htb7:Tb W7 B g vj mj (cs++(entCells a r' (some ⟨w.heap.size+1,0,none⟩) n.I.length n.I.length++ds)):=by rw [hmj];exact HL.out.tb.later hb7
     have hcall:=IH.out x rx W7 g vj mj _ (by have:=Jbv hx;omega) hrx hbr7 htb7 (by omega);unfold ndV rawCells at hcall;have HC:=Lib.hid hcall;have HX:=Lib.hid hx;have HB7:=Lib.hid hb7;have Hmj:=Lib.hid hmj;unfold rawCells at hW7;have HW7:=Lib.hid hW7;have HX7:=Lib.hid hx7;rw [hA];clear hx hbr hrx hA hb7 hx7 hbr7 hmj hct htb7 hcall hW7 b0 b1 b2 b4 b5 b6;go_upto_region 6 with fail
     rw [←HW7.out];clear b3 c0 c1 c2 c3 c4 c5 c6;obtain⟨b0,b1,b2,b3,b4,b5,b6⟩:=HX7.out.cells;go_wp2_with fail
     refine HC.out.mono ?_;rintro e w8 ⟨v8,dx,rfl,t8,e8,k8⟩;have hfin:=HL.out.int HX.out (by omega) HB7.out k8 (by rw [←Hmj.out];exact t8) (by rw [←Hmj.out];exact e8);rw [←Hmj.out] at hfin;obtain⟨hL8,cur8,hc8,hs8⟩:=hfin;have HL8:=Lib.hid hL8;have hcell:w8.cell? ⟨w.heap.size+1,j,none⟩=some (cur8[j]'(by omega)):=by rw [Jaa hc8 j];exact Array.getElem?_eq_getElem _
     have hfree:=Jab hc8 j;obtain⟨uj,huj⟩:=words.nm (cur8[j]'(by omega));rw [←huj] at hcell;clear hL8 hc8 t8 e8 k8 huj b0 b1 b2 b3 b4 b5 b6 HC HW7 HX7 HB7;go_wp2_with fail
     go_roundw
     case rel=>exact⟨j+1,v8,_,by omega,by go_num,HL8⟩
     case measure=>simp [intOf];omega
    ·obtain rfl:j=n.I.length:=by omega
     go_wp2_with fail
     go_ret
     have h:=HL.out;rw [Ha.out] at h;exact h.done (by omega)

def Brn (w:World) (B g:Nat) (L:List Ent):Prop:=
 g<B∧∃A c cs,w.heap[g]?=some (.cells #[.slice A L.length c] 198 (0,0))∧(∀j v,cs[j]?=some v→∃b off,A=some ⟨b,off,none⟩∧b<B∧w.cell? ⟨b,off+j,none⟩=some v)∧Ents w (fun b=>b<B) cs L
theorem Brn.keep {w w':World} {B g:Nat} {L:List Ent} (h:Brn w B g L) (hb:Below B w w'):Brn w' B g L:=by
 obtain⟨h1,A,c,cs,h2,h3,h4⟩:=h;refine⟨h1,A,c,cs,(hb.block g h1).trans h2,fun j v hj=>?_,h4.keep fun b hlt=>⟨hb.block b hlt,hlt⟩⟩;obtain⟨b,off,e1,e2,e3⟩:=h3 j v hj;exact⟨b,off,e1,e2,(hb.cell (p:=⟨b,off+j,none⟩) e2).trans e3⟩
theorem Brn.more {w:World} {B B' g:Nat} {L:List Ent} (h:Brn w B g L) (hB:B≤B'):Brn w B' g L:=by
 obtain⟨h1,A,c,cs,h2,h3,h4⟩:=h;refine⟨Nat.lt_of_lt_of_le h1 hB,A,c,cs,h2,fun j v hj=>?_,h4.keep fun b hlt=>⟨rfl,Nat.lt_of_lt_of_le hlt hB⟩⟩;obtain⟨b,off,e1,e2,e3⟩:=h3 j v hj;exact⟨b,off,e1,Nat.lt_of_lt_of_le e2 hB,e3⟩
theorem Brn.later {w w':World} {g:Nat} {L:List Ent} (h:Brn w w.heap.size g L) (hb:Below w.heap.size w w'):Brn w' w'.heap.size g L:=(h.keep hb).more hb.size
theorem Tb.brn {w:World} {B g m:Nat} {v:Value} {cs:List Value} {L:List Ent} {lo:Nat} (h:Tb w B g v m cs) (he:Ents w (Qs w lo) cs L) (hm:m=L.length):Brn w w.heap.size g L:=by
 subst hm;obtain⟨h1,h2,h3⟩:=h;obtain⟨A,c,rfl,_,_⟩:=own_facts h3;refine⟨lt_of_some h2,A,c,cs,h2,fun j v hj=>?_,he.keep fun b hb=>⟨rfl,hb.lt⟩⟩;obtain⟨b,cur,e1,_,e3,_,e5⟩:=own_cell h3 hj;exact⟨b,0,e1,e3,by rw [Nat.zero_add];exact e5⟩

def Newed (n:Nd) (w:World) (e:Ending) (w':World):Prop:=(∃g,e= .returned (.tuple #[.pointer (some ⟨g,0,none⟩),.int .i64 0])∧Brn w' w'.heap.size g (flatN 0 n))∧Below w.heap.size w w'
theorem Jwn (n:Nd) (r:Raw) (m:Int) (w:World) (hN:NdAt w w.heap.size n r) (hm:w.cell? ⟨1,0,none⟩=some (.int .i64 m)) (hd:depth n≤1000) (ht:treeB n=true) (hc:countC n=(count n:Int)) (hc4:count n≤4096):
  Calls prog 75 #[ndV n r] w (Newed n w):=by
 obtain⟨W1,hW1⟩:=words.nm (w.alloc (.cells (rawCells n r) 46));have hb1:=words.b1 hW1;have hx1:Box W1 w.heap.size n r:=by rw [hW1];exact Box.new w n r
 have hr:=Jeq n r m W1 (hN.later hb1) (Jao hm hb1) hd;rw [ht] at hr;unfold ndV rawCells at hr;have HR:=Lib.hid hr;have HN:=Lib.hid hN;have HX1:=Lib.hid hx1;have Hc:=Lib.hid hc;unfold rawCells at hW1;have HW1:=Lib.hid hW1;have HB1:=Lib.hid hb1;obtain⟨i1,hi',hw0,hw1,hw2⟩:=info_parts infoBn;obtain⟨C,hC⟩:=words.nm (count n);have hmk:∀u:World,(Instr.makeSlice 196 (.int .i64 0) (.int .i64 (C:Int))).run prog u=
   .ok (.slice (some ⟨u.heap.size,0,none⟩) 0 C) (u.alloc (.cells (madeCells #[.int .i64 0,.bool false,.slice none 0 0,.slice none 0 0,.int .i64 0,.slice none 0 0,.string ⟨#[]⟩,.slice none 0 0] (C*8)) 238)):=fun u=>by
  have h:=run_make (P:=prog) u 196 238 i1 _ underlying196 hi' hw0 .i64 .i64 0 (C:Int) (by omega) (by omega) (by rw [hw2];omega) (by omega);simpa [hw1,Value.cells] using h
 obtain⟨M,hM⟩:=words.nm (madeCells #[.int .i64 0,.bool false,.slice none 0 0,.slice none 0 0,.int .i64 0,.slice none 0 0,.string ⟨#[]⟩,.slice none 0 0] (C*8));rw [←hM] at hmk;have hMs:M.size=C*8:=by rw [hM,size_madeCells]
 have HMs:=Lib.hid hMs;have HC:=Lib.hid hC;obtain⟨b0,b1,b2,b3,b4,b5,b6⟩:=hx1.cells;clear hN hm hr hW1 hb1 hx1 hc hM hMs hC hi' hw0 hw1 hw2;unfold ndV rawCells;go_enter func75,ntmps75
 go_upto_region 1 with fail
 rw [←HW1.out];go_wp2_with fail
 refine HR.out.mono ?_;rintro e w2 ⟨rfl,hb2⟩;have hb12:Below w.heap.size w w2:=HB1.out.trans (hb2.mono HB1.out.size);have hcc:=Jh2 n r w2 ((HN.out.later HB1.out).later hb2) hd;rw [Hc.out,←HC.out] at hcc;unfold ndV rawCells at hcc;have HCC:=Lib.hid hcc;have HX2:=Lib.hid (HX1.out.below hb2);have HB2:=Lib.hid hb12;clear hb2 hb12 hcc HR HW1 HX1 b0 b1 b2 b3 b4 b5 b6;obtain⟨b0,b1,b2,b3,b4,b5,b6⟩:=HX2.out.cells;go_wp2_with fail
 refine HCC.out.mono ?_;rintro e w3 ⟨rfl,hb3⟩;have HX3:=Lib.hid (HX2.out.below hb3);have HB3:=Lib.hid (HB2.out.trans (hb3.mono HB2.out.size));clear hb3 HCC HX2 HB2 b0 b1 b2 b3 b4 b5 b6;obtain⟨W4,hW4⟩:=words.nm ((w3.alloc (.cells M 238)).alloc (.cells #[.slice (some ⟨w3.heap.size,0,none⟩) 0 C] 198));have ha:Below w3.heap.size w3 (w3.alloc (.cells M 238)):=(Below.refl _ _).alloc (Nat.le_refl _) _;have hb34:Below w3.heap.size w3 W4:=by rw [hW4];exact ha.alloc ha.size _
 have hx4:=HX3.out.below hb34;have hb4:Below w.heap.size w W4:=HB3.out.trans (hb34.mono HB3.out.size);have hsz:(w3.alloc (.cells M 238)).heap.size=w3.heap.size+1:=by simp
 have htb:Tb W4 w.heap.size (w3.heap.size+1) (.slice (some ⟨w3.heap.size,0,none⟩) 0 C) 0 []:=by
  have hge:=HB3.out.size;refine⟨by omega,?_,?_⟩
  ·rw [hW4,←hsz]
   exact heap_alloc_new _ _
  ·rw [hW4]
   exact (World.ownsRow_made w3 M C hge (by have:=HC.out;simp only [maxLen];omega) HMs.out).alloc _
 have hcall:=Jya w w.heap.size (depth n+1) n r W4 (w3.heap.size+1) _ 0 [] (Nat.lt_succ_self _) HN.out hb4 htb (by omega);unfold ndV rawCells at hcall;have HCall:=Lib.hid hcall;have HX4:=Lib.hid hx4;have HB4:=Lib.hid hb4;have HW4:=Lib.hid hW4;clear ha hb34 hx4 hb4 hcall htb hW4 HX3 HB3;go_upto_region 4 with fail
 rw [←HW4.out];clear hsz;obtain⟨b0,b1,b2,b3,b4,b5,b6⟩:=HX4.out.cells;go_wp2_with fail
 refine HCall.out.mono ?_;rintro e w5 ⟨v5,ds,rfl,t5,e5,k5⟩;have hbr:=t5.brn (L:=flatN 0 n) (by simpa using e5) (by rw [Jj2,Nat.zero_add]);have HBr:=Lib.hid hbr;have HB5:=Lib.hid (HB4.out.trans (k5.below HB4.out.size));clear t5 e5 k5 hbr HCall HW4 b0 b1 b2 b3 b4 b5 b6;go_wp2_with fail
 exact bodyPost_ret (v:= .tuple #[.pointer (some ⟨w3.heap.size+1,0,none⟩),.int .i64 0]) (by simp [results,results75,go_sem]) rfl ⟨⟨_,rfl,HBr.out⟩,HB5.out⟩

def zeroEnt:Value:= .agg #[.int .i64 0,.bool false,.slice none 0 0,.slice none 0 0,.int .i64 0,.slice none 0 0,.string ⟨#[]⟩,.slice none 0 0]
def eCells (x:Nd) (r:Raw) (A:Option Addr) (l c:Nat):Array Value:=
 #[.int .i64 x.K,.bool x.O,.slice r.An x.N.length r.cn,.slice r.Ai x.I.length r.ci,.int .i64 x.S,.slice r.Ae x.E.length r.ce,.string x.T,.slice A l c]
theorem over8 {w:World} {g:Nat} {T:TypeId} {c0 c1 c2 c3 c4 c5 c6 c7 u0 u1 u2 u3 u4 u5 u6 u7:Value} (h:w.heap[g]?=some (.cells #[c0,c1,c2,c3,c4,c5,c6,c7] T (0,0))):
  (w.setCells g 0 [u0,u1,u2,u3,u4,u5,u6,u7]).heap[g]?=some (.cells #[u0,u1,u2,u3,u4,u5,u6,u7] T (0,0)):=by
 have h0:=heap_setCell_same w g 0 _ _ u0 h;have h1:=heap_setCell_same _ g 1 _ _ u1 h0;have h2:=heap_setCell_same _ g 2 _ _ u2 h1;have h3:=heap_setCell_same _ g 3 _ _ u3 h2;have h4:=heap_setCell_same _ g 4 _ _ u4 h3;have h5:=heap_setCell_same _ g 5 _ _ u5 h4;have h6:=heap_setCell_same _ g 6 _ _ u6 h5;have h7:=heap_setCell_same _ g 7 _ _ u7 h6;have he:w.setCells g 0 [u0,u1,u2,u3,u4,u5,u6,u7]=(((((((w.setCell ⟨g,0,none⟩ u0).setCell ⟨g,1,none⟩ u1).setCell ⟨g,2,none⟩ u2).setCell ⟨g,3,none⟩ u3).setCell ⟨g,4,none⟩ u4).setCell ⟨g,5,none⟩ u5).setCell ⟨g,6,none⟩ u6).setCell ⟨g,7,none⟩ u7:=by
  simp only [World.setCells,Nat.reduceAdd,Nat.zero_add]
 rw [he,h7];simp
structure EntIn (w:World) (B:Nat) (e:Ent) (r:Raw) (A:Option Addr) (c:Nat):Prop where
 nd:NdAt w B e.x r
 ids:IntIn w (fun b=>b<B) A e.ids
 cap:e.ids.length≤c
theorem EntIn.later {w w':World} {e:Ent} {r:Raw} {A:Option Addr} {c:Nat} (h:EntIn w w.heap.size e r A c) (hb:Below w.heap.size w w'):EntIn w' w'.heap.size e r A c:=
 ⟨h.nd.later hb,h.ids.keep fun b hlt=>⟨hb.block b hlt,Nat.lt_of_lt_of_le hlt hb.size⟩,h.cap⟩
theorem Brn.at_ {w:World} {B g:Nat} {L:List Ent} (h:Brn w B g L) {k:Nat} {e:Ent} (he:L[k]?=some e):
  ∃A c b off r Ai ci,w.cell? ⟨g,0,none⟩=some (.slice A L.length c)∧A=some ⟨b,off,none⟩∧b<B∧EntIn w B e r Ai ci∧
   ∀j v,(eCells e.x r Ai e.ids.length ci)[j]?=some v→w.cell? ⟨b,off+k*8+j,none⟩=some v:=by
 obtain⟨_,A,c,cs,h2,h3,h4⟩:=h;obtain⟨r,Ai,ci,n1,n2,n3,n4⟩:=h4.2 k e he;obtain⟨b,off,e1,e2,_⟩:=h3 (k*8+0) _ (n4 0 _ rfl);refine⟨A,c,b,off,r,Ai,ci,Jaa h2 0,e1,e2,⟨n1.at_ fun b hb=>hb,n2,n3⟩,fun j v hj=>?_⟩;obtain⟨b',off',e1',_,e3'⟩:=h3 (k*8+j) v (n4 j v (by rw [←Array.getElem?_toList] at hj;exact hj));rw [e1] at e1';injection e1' with e1';injection e1' with x1 x2;subst x1 x2;rw [Nat.add_assoc];exact e3'
def AtYes (e:Ent) (w:World) (en:Ending) (w':World):Prop:=
 ∃r A c,en= .returned (.agg #[.int .i64 e.x.K,.bool e.x.O,.slice r.An e.x.N.length r.cn,.slice r.Ai e.x.I.length r.ci,.int .i64 e.x.S,.slice r.Ae e.x.E.length r.ce,.string e.x.T,.slice A e.ids.length c])∧EntIn w' w'.heap.size e r A c∧Below w.heap.size w w'
theorem Jdv (g k:Nat) (L:List Ent) (e:Ent) (w:World) (h:Brn w w.heap.size g L) (he:L[k]?=some e):
  Calls prog 300 #[.pointer (some ⟨g,0,none⟩),.int .i64 (k:Int)] w (AtYes e w):=by
 have hlt:=(List.getElem?_eq_some_iff.1 he).1;obtain⟨W1,hW1⟩:=words.nm (w.alloc (.cells #[.int .i64 0,.bool false,.slice none 0 0,.slice none 0 0,.int .i64 0,.slice none 0 0,.string ⟨#[]⟩,.slice none 0 0] 238));have hb1:=words.b1 hW1;have hx1:W1.heap[w.heap.size]?=some (.cells #[.int .i64 0,.bool false,.slice none 0 0,.slice none 0 0,.int .i64 0,.slice none 0 0,.string ⟨#[]⟩,.slice none 0 0] 238 (0,0)):=by rw [hW1];exact heap_alloc_new w _
 obtain⟨A,c,b,off,r,Ai,ci,cg,rfl,hbb,hen,hc⟩:=h.at_ he;have cg:=Jao cg hb1;have hc:∀j v,(eCells e.x r Ai e.ids.length ci)[j]?=some v→W1.cell? ⟨b,off+k*8+j,none⟩=some v:=fun j v hj=>(hb1.cell (p:=⟨b,off+k*8+j,none⟩) hbb).trans (hc j v hj);have c0:W1.cell? ⟨b,off+k*8,none⟩=some (.int .i64 e.x.K):=hc 0 _ rfl;have c1:W1.cell? ⟨b,off+k*8+1,none⟩=some (.bool e.x.O):=hc 1 _ rfl;have c2:W1.cell? ⟨b,off+k*8+2,none⟩=some (.slice r.An e.x.N.length r.cn):=hc 2 _ rfl;have c3:W1.cell? ⟨b,off+k*8+3,none⟩=some (.slice r.Ai e.x.I.length r.ci):=hc 3 _ rfl;have c4:W1.cell? ⟨b,off+k*8+4,none⟩=some (.int .i64 e.x.S):=hc 4 _ rfl;have c5:W1.cell? ⟨b,off+k*8+5,none⟩=some (.slice r.Ae e.x.E.length r.ce):=hc 5 _ rfl;have c6:W1.cell? ⟨b,off+k*8+6,none⟩=some (.string e.x.T):=hc 6 _ rfl;have c7:W1.cell? ⟨b,off+k*8+7,none⟩=some (.slice Ai e.ids.length ci):=hc 7 _ rfl;have i0:(0:Int)≤(k:Int):=by omega
 have i1:(k:Int)<(L.length:Int):=by omega
 have i2:¬(L.length:Int)≤(k:Int):=by omega
 have i3:¬(k:Int)<0:=by omega
 have i4:decide ((k:Int)<0)=false:=by simp
 have i5:decide ((L.length:Int)≤(k:Int))=false:=by simp;omega
 have z0:=Jab hx1 0;have z1:=Jab hx1 1;have z2:=Jab hx1 2;have z3:=Jab hx1 3;have z4:=Jab hx1 4;have z5:=Jab hx1 5;have z6:=Jab hx1 6;have z7:=Jab hx1 7;have d0:W1.cell? ⟨w.heap.size,0,none⟩=some (.int .i64 0):=Jaa hx1 0;have d1:W1.cell? ⟨w.heap.size,1,none⟩=some (.bool false):=Jaa hx1 1;have d2:W1.cell? ⟨w.heap.size,2,none⟩=some (.slice none 0 0):=Jaa hx1 2;have d3:W1.cell? ⟨w.heap.size,3,none⟩=some (.slice none 0 0):=Jaa hx1 3;have d4:W1.cell? ⟨w.heap.size,4,none⟩=some (.int .i64 0):=Jaa hx1 4;have d5:W1.cell? ⟨w.heap.size,5,none⟩=some (.slice none 0 0):=Jaa hx1 5;have d6:W1.cell? ⟨w.heap.size,6,none⟩=some (.string ⟨#[]⟩):=Jaa hx1 6;have d7:W1.cell? ⟨w.heap.size,7,none⟩=some (.slice none 0 0):=Jaa hx1 7;obtain⟨Wd,hWd⟩:=words.nm (W1.setCells w.heap.size 0 (eCells e.x r Ai e.ids.length ci).toList);have hob:Wd.heap[w.heap.size]?=some (.cells (eCells e.x r Ai e.ids.length ci) 238 (0,0)):=by rw [hWd];exact over8 hx1
 have hs:=size_setCells w.heap.size (eCells e.x r Ai e.ids.length ci).toList 0 W1;have hBd:=below_setCells (w:=w) (B:=w.heap.size) (g:=w.heap.size) (Nat.le_refl _) (eCells e.x r Ai e.ids.length ci).toList 0 W1 hb1;rw [←hWd] at hs hBd;obtain⟨p0,p1,p2,p3,p4,p5,p6,p7⟩:Wd.cell? ⟨w.heap.size,0,none⟩=some (.int .i64 e.x.K)∧Wd.cell? ⟨w.heap.size,1,none⟩=some (.bool e.x.O)∧Wd.cell? ⟨w.heap.size,2,none⟩=some (.slice r.An e.x.N.length r.cn)∧Wd.cell? ⟨w.heap.size,3,none⟩=some (.slice r.Ai e.x.I.length r.ci)∧Wd.cell? ⟨w.heap.size,4,none⟩=some (.int .i64 e.x.S)∧Wd.cell? ⟨w.heap.size,5,none⟩=some (.slice r.Ae e.x.E.length r.ce)∧Wd.cell? ⟨w.heap.size,6,none⟩=some (.string e.x.T)∧Wd.cell? ⟨w.heap.size,7,none⟩=some (.slice Ai e.ids.length ci):=
  ⟨Jaa hob 0,Jaa hob 1,Jaa hob 2,Jaa hob 3,Jaa hob 4,Jaa hob 5,Jaa hob 6,Jaa hob 7⟩
 have hWd':(((((((W1.setCell ⟨w.heap.size,0,none⟩ (.int .i64 e.x.K)).setCell ⟨w.heap.size,1,none⟩ (.bool e.x.O)).setCell ⟨w.heap.size,2,none⟩ (.slice r.An e.x.N.length r.cn)).setCell ⟨w.heap.size,3,none⟩ (.slice r.Ai e.x.I.length r.ci)).setCell ⟨w.heap.size,4,none⟩ (.int .i64 e.x.S)).setCell ⟨w.heap.size,5,none⟩ (.slice r.Ae e.x.E.length r.ce)).setCell ⟨w.heap.size,6,none⟩ (.string e.x.T)).setCell ⟨w.heap.size,7,none⟩ (.slice Ai e.ids.length ci)=Wd:=by rw [hWd];rfl
 have HEn:=Lib.hid (hen.later hBd);have HBd:=Lib.hid hBd;have HWd:=Lib.hid hWd';have HW1:=Lib.hid hW1;clear h he hW1 hb1 hx1 hen hc hWd hob hs hBd hWd';go_enter func300,ntmps300
 go_upto_region 1 with fail
 rw [←HW1.out];go_wp2_with fail
 rw [HWd.out];exact bodyPost_ret (v:= .agg #[.int .i64 e.x.K,.bool e.x.O,.slice r.An e.x.N.length r.cn,.slice r.Ai e.x.I.length r.ci,.int .i64 e.x.S,.slice r.Ae e.x.E.length r.ce,.string e.x.T,.slice Ai e.ids.length ci]) (by simp [results,results300,go_sem,p0,p1,p2,p3,p4,p5,p6,p7]) rfl ⟨r,Ai,ci,rfl,HEn.out,HBd.out⟩
theorem Jpd (g:Nat) (i:Int) (L:List Ent) (w:World) (h:Brn w w.heap.size g L) (hi:i<0∨(L.length:Int)≤i):
  Calls prog 300 #[.pointer (some ⟨g,0,none⟩),.int .i64 i] w fun e w'=>e= .returned zeroEnt∧Below w.heap.size w w':=by
 obtain⟨W1,hW1⟩:=words.nm (w.alloc (.cells #[.int .i64 0,.bool false,.slice none 0 0,.slice none 0 0,.int .i64 0,.slice none 0 0,.string ⟨#[]⟩,.slice none 0 0] 238));have hb1:=words.b1 hW1;have hx1:W1.heap[w.heap.size]?=some (.cells #[.int .i64 0,.bool false,.slice none 0 0,.slice none 0 0,.int .i64 0,.slice none 0 0,.string ⟨#[]⟩,.slice none 0 0] 238 (0,0)):=by rw [hW1];exact heap_alloc_new w _
 obtain⟨_,A,c,cs,h2,_,_⟩:=h;have cg:W1.cell? ⟨g,0,none⟩=some (.slice A L.length c):=Jao (Jaa h2 0) hb1;have z0:=Jab hx1 0;have z1:=Jab hx1 1;have z2:=Jab hx1 2;have z3:=Jab hx1 3;have z4:=Jab hx1 4;have z5:=Jab hx1 5;have z6:=Jab hx1 6;have z7:=Jab hx1 7;have d0:W1.cell? ⟨w.heap.size,0,none⟩=some (.int .i64 0):=Jaa hx1 0;have d1:W1.cell? ⟨w.heap.size,1,none⟩=some (.bool false):=Jaa hx1 1;have d2:W1.cell? ⟨w.heap.size,2,none⟩=some (.slice none 0 0):=Jaa hx1 2;have d3:W1.cell? ⟨w.heap.size,3,none⟩=some (.slice none 0 0):=Jaa hx1 3;have d4:W1.cell? ⟨w.heap.size,4,none⟩=some (.int .i64 0):=Jaa hx1 4;have d5:W1.cell? ⟨w.heap.size,5,none⟩=some (.slice none 0 0):=Jaa hx1 5;have d6:W1.cell? ⟨w.heap.size,6,none⟩=some (.string ⟨#[]⟩):=Jaa hx1 6;have d7:W1.cell? ⟨w.heap.size,7,none⟩=some (.slice none 0 0):=Jaa hx1 7;obtain⟨Wd,hWd⟩:=words.nm (W1.setCells w.heap.size 0 [.int .i64 0,.bool false,.slice none 0 0,.slice none 0 0,.int .i64 0,.slice none 0 0,.string ⟨#[]⟩,.slice none 0 0]);have hob:Wd.heap[w.heap.size]?=some (.cells #[.int .i64 0,.bool false,.slice none 0 0,.slice none 0 0,.int .i64 0,.slice none 0 0,.string ⟨#[]⟩,.slice none 0 0] 238 (0,0)):=by rw [hWd];exact over8 hx1
 have hBd:=below_setCells (w:=w) (B:=w.heap.size) (g:=w.heap.size) (Nat.le_refl _) [.int .i64 0,.bool false,.slice none 0 0,.slice none 0 0,.int .i64 0,.slice none 0 0,.string ⟨#[]⟩,.slice none 0 0] 0 W1 hb1;rw [←hWd] at hBd;obtain⟨p0,p1,p2,p3,p4,p5,p6,p7⟩:Wd.cell? ⟨w.heap.size,0,none⟩=some (.int .i64 0)∧Wd.cell? ⟨w.heap.size,1,none⟩=some (.bool false)∧Wd.cell? ⟨w.heap.size,2,none⟩=some (.slice none 0 0)∧Wd.cell? ⟨w.heap.size,3,none⟩=some (.slice none 0 0)∧Wd.cell? ⟨w.heap.size,4,none⟩=some (.int .i64 0)∧Wd.cell? ⟨w.heap.size,5,none⟩=some (.slice none 0 0)∧Wd.cell? ⟨w.heap.size,6,none⟩=some (.string ⟨#[]⟩)∧Wd.cell? ⟨w.heap.size,7,none⟩=some (.slice none 0 0):=
  ⟨Jaa hob 0,Jaa hob 1,Jaa hob 2,Jaa hob 3,Jaa hob 4,Jaa hob 5,Jaa hob 6,Jaa hob 7⟩
 have hWd':(((((((W1.setCell ⟨w.heap.size,0,none⟩ (.int .i64 0)).setCell ⟨w.heap.size,1,none⟩ (.bool false)).setCell ⟨w.heap.size,2,none⟩ (.slice none 0 0)).setCell ⟨w.heap.size,3,none⟩ (.slice none 0 0)).setCell ⟨w.heap.size,4,none⟩ (.int .i64 0)).setCell ⟨w.heap.size,5,none⟩ (.slice none 0 0)).setCell ⟨w.heap.size,6,none⟩ (.string ⟨#[]⟩)).setCell ⟨w.heap.size,7,none⟩ (.slice none 0 0)=Wd:=by rw [hWd];rfl
 have HBd:=Lib.hid hBd;have HWd:=Lib.hid hWd';have HW1:=Lib.hid hW1;clear hW1 hb1 hx1 h2 hWd hob hBd hWd';rcases hi with hi |hi
 ·have i4:decide (i<0)=true:=by simpa using hi
  go_enter func300,ntmps300
  go_upto_region 1 with fail
  rw [←HW1.out];go_wp2_with fail
  rw [HWd.out];exact bodyPost_ret (v:=zeroEnt) (by simp [results,results300,go_sem,zeroEnt,p0,p1,p2,p3,p4,p5,p6,p7]) rfl ⟨rfl,HBd.out⟩
 ·have i4:decide (i<0)=false:=by simp;omega
  have i5:decide ((L.length:Int)≤i)=true:=by simpa using hi
  go_enter func300,ntmps300
  go_upto_region 1 with fail
  rw [←HW1.out];go_wp2_with fail
  rw [HWd.out];exact bodyPost_ret (v:=zeroEnt) (by simp [results,results300,go_sem,zeroEnt,p0,p1,p2,p3,p4,p5,p6,p7]) rfl ⟨rfl,HBd.out⟩

theorem Jha (x:Nd) (r:Raw) (A:Option Addr) (l c:Nat) (w:World):Sem.run prog (Instr.field 238 (.agg #[.int .i64 x.K,.bool x.O,.slice r.An x.N.length r.cn,.slice r.Ai x.I.length r.ci,.int .i64 x.S,.slice r.Ae x.E.length r.ce,.string x.T,.slice A l c]) 0) w= .ok (.agg #[.int .i64 x.K,.bool x.O,.slice r.An x.N.length r.cn,.slice r.Ai x.I.length r.ci,.int .i64 x.S,.slice r.Ae x.E.length r.ce,.string x.T]) w:=by kernel_rfl
theorem Jsf (g k:Nat) (L:List Ent) (e:Ent) (w:World) (h:Brn w w.heap.size g L) (he:L[k]?=some e):
  Calls prog 295 #[.pointer (some ⟨g,0,none⟩),.int .i64 (k:Int)] w fun en w'=>en= .returned (.int .i64 e.x.K)∧Below w.heap.size w w':=by
 have H:=Lib.hid (Jdv g k L e w h he);clear h he;go_enter func295,ntmps295
 go_wp2_with fail
 refine H.out.mono ?_;rintro en w1 ⟨r,A,c,rfl,_,hb⟩;have hf1:∀w':World,Sem.run prog (Instr.field 238 (.agg #[.int .i64 e.x.K,.bool e.x.O,.slice r.An e.x.N.length r.cn,.slice r.Ai e.x.I.length r.ci,.int .i64 e.x.S,.slice r.Ae e.x.E.length r.ce,.string e.x.T,.slice A e.ids.length c]) 0) w'= .ok (.agg #[.int .i64 e.x.K,.bool e.x.O,.slice r.An e.x.N.length r.cn,.slice r.Ai e.x.I.length r.ci,.int .i64 e.x.S,.slice r.Ae e.x.E.length r.ce,.string e.x.T]) w':=fun w'=>Jha _ _ _ _ _ w';have hf2:∀w':World,Sem.run prog (Instr.field 46 (.agg #[.int .i64 e.x.K,.bool e.x.O,.slice r.An e.x.N.length r.cn,.slice r.Ai e.x.I.length r.ci,.int .i64 e.x.S,.slice r.Ae e.x.E.length r.ce,.string e.x.T]) 0) w'= .ok (.int .i64 e.x.K) w':=fun _=>by kernel_rfl
 have HB:=Lib.hid hb;clear hb H;go_wp2_with fail
 go_ret
 exact⟨rfl,HB.out⟩
theorem Js0 (g k:Nat) (L:List Ent) (e:Ent) (w:World) (h:Brn w w.heap.size g L) (he:L[k]?=some e):
  Calls prog 297 #[.pointer (some ⟨g,0,none⟩),.int .i64 (k:Int)] w fun en w'=>en= .returned (.bool e.x.O)∧Below w.heap.size w w':=by
 have H:=Lib.hid (Jdv g k L e w h he);clear h he;go_enter func297,ntmps297
 go_wp2_with fail
 refine H.out.mono ?_;rintro en w1 ⟨r,A,c,rfl,_,hb⟩;have hf1:∀w':World,Sem.run prog (Instr.field 238 (.agg #[.int .i64 e.x.K,.bool e.x.O,.slice r.An e.x.N.length r.cn,.slice r.Ai e.x.I.length r.ci,.int .i64 e.x.S,.slice r.Ae e.x.E.length r.ce,.string e.x.T,.slice A e.ids.length c]) 0) w'= .ok (.agg #[.int .i64 e.x.K,.bool e.x.O,.slice r.An e.x.N.length r.cn,.slice r.Ai e.x.I.length r.ci,.int .i64 e.x.S,.slice r.Ae e.x.E.length r.ce,.string e.x.T]) w':=fun w'=>Jha _ _ _ _ _ w';have hf2:∀w':World,Sem.run prog (Instr.field 46 (.agg #[.int .i64 e.x.K,.bool e.x.O,.slice r.An e.x.N.length r.cn,.slice r.Ai e.x.I.length r.ci,.int .i64 e.x.S,.slice r.Ae e.x.E.length r.ce,.string e.x.T]) 1) w'= .ok (.bool e.x.O) w':=fun _=>by kernel_rfl
 have HB:=Lib.hid hb;clear hb H;go_wp2_with fail
 go_ret
 exact⟨rfl,HB.out⟩
def Looks (N:List ByteArray) (ids:List Nat) (s:ByteArray) (w:World) (en:Ending) (w':World):Prop:=
 ((∃(i id:Nat),N[i]?=some s∧ids[i]?=some id∧en= .returned (.tuple #[.int .i64 (id:Int),.bool true]))∨(en= .returned (.tuple #[.int .i64 0,.bool false])∧∀j:Nat,N[j]?≠some s))∧Below w.heap.size w w'
theorem Jpt (g k:Nat) (L:List Ent) (e:Ent) (s:ByteArray) (w:World) (h:Brn w w.heap.size g L) (he:L[k]?=some e) (hasc:Asc e.x.N) (hlen:e.ids.length=e.x.N.length):
  Calls prog 294 #[.pointer (some ⟨g,0,none⟩),.int .i64 (k:Int),.string s] w (Looks e.x.N e.ids s w):=by
 have H:=Lib.hid (Jdv g k L e w h he);clear h he;go_enter func294,ntmps294
 go_wp2_with fail
 refine H.out.mono ?_;rintro en w1 ⟨r,A,c,rfl,hen,hb⟩;obtain⟨W2,hW2⟩:=words.nm (w1.alloc (.cells #[.int .i64 e.x.K,.bool e.x.O,.slice r.An e.x.N.length r.cn,.slice r.Ai e.x.I.length r.ci,.int .i64 e.x.S,.slice r.Ae e.x.E.length r.ce,.string e.x.T,.slice A e.ids.length c] 238));have hb2:Below w1.heap.size w1 W2:=words.b1 hW2;have hx2:W2.heap[w1.heap.size]?=some (.cells #[.int .i64 e.x.K,.bool e.x.O,.slice r.An e.x.N.length r.cn,.slice r.Ai e.x.I.length r.ci,.int .i64 e.x.S,.slice r.Ae e.x.E.length r.ce,.string e.x.T,.slice A e.ids.length c] 238 (0,0)):=by rw [hW2];exact heap_alloc_new w1 _
 have c2:W2.cell? ⟨w1.heap.size,2,none⟩=some (.slice r.An e.x.N.length r.cn):=Jaa hx2 2;have c7:W2.cell? ⟨w1.heap.size,7,none⟩=some (.slice A e.ids.length c):=Jaa hx2 7;have hen2:=hen.later hb2;have hle:=hen2.nd.fit.ln;have HC:=Lib.hid (Jpb r.An r.cn e.x.N s W2 hen2.nd.names (by omega) hasc);have HB2:=Lib.hid (hb.trans (hb2.mono hb.size));have HW2:=Lib.hid hW2;have HI:=Lib.hid hen2.ids;have HL:=Lib.hid hlen;clear hb H hen hen2 hb2 hx2 hW2 hle hlen;go_upto_region 2 with fail
 rw [←HW2.out];go_wp2_with fail
 refine HC.out.mono ?_;rintro en w3 ⟨⟨i,rfl,hi⟩ |⟨i,rfl,hno⟩,rfl⟩
 ·have hlt:=(List.getElem?_eq_some_iff.1 hi).1
  have hlt2:i<e.ids.length:=by have:=HL.out;omega
  obtain⟨id,hid⟩:∃id,e.ids[i]?=some id:=⟨_,List.getElem?_eq_getElem hlt2⟩
  obtain⟨b,off,rfl,_,hc⟩:=HI.out i id hid;have i0:(0:Int)≤(i:Int):=by omega
  have i1:(i:Int)<(e.ids.length:Int):=by omega
  have H1:=Lib.hid hi;have H2:=Lib.hid hid;clear hi hid HC HW2;go_wp2_with fail
  go_ret2
  exact⟨.inl ⟨i,id,H1.out,H2.out,rfl⟩,HB2.out⟩
 ·have HF:=Lib.hid hno
  clear hno HC HW2;go_wp2_with fail
  go_ret2
  exact⟨.inr ⟨rfl,HF.out⟩,HB2.out⟩
end Go.Proofs.YtekekhgjobahaaaGreatDoor.tre
