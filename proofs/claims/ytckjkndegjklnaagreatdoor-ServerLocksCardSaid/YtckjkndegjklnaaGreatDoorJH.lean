/- What Text, White and Dir hand back: nodes. Conditions: a text is no longer than a million; the rows are such as were read. Three short texts, and directories of one or two entries. Condition: what they are made of was read. A node's box as it is seen behind calls; and whether a node is small. Condition: the node is one that was read. How a slice of extents that came in is read: its extents, two cells each, as a list. No condition. How a node that came in is read: its seven cells, its texts, extents and entries, whatever is in it. No condition. -/
import Derived.Test.YtckjkndegjklnaaGreatDoorJG
import Derived.Test.YtckjkndegjklnaaGreatDoorJB9
import Derived.Test.YtckjkndegjklnaaGreatDoorJF
import Derived.Test.YtckjkndegjklnaaGreatDoorRows
import Derived.Test.YtckjkndegjklnaaGreatDoorJB1
import Derived.ProofKit
import Derived.OpenShut
import Derived.Deep.Slices
import Derived.SizedLaws
namespace Go.Proofs.YtckjkndegjklnaaGreatDoor.tre
set_option maxRecDepth 100000
open Go.RowKit words ext name

def Built (n:Nd) (w:World) (e:Ending) (w':World):Prop:=∃r',e= .returned (ndV n r')∧NdAt w' w'.heap.size n r'∧Below w.heap.size w w'
theorem TxtIn.txts {w:World} {P:Nat→Prop} {B:Nat} {A:Option Addr} {Q:List ByteArray} (h:TxtIn w P A Q) (hP:∀b,P b→b<B):Txts w B A Q:=fun i x hx=>by
 obtain⟨⟨b,off,h1,h2,h3⟩,h4⟩:=h i x hx
 exact⟨⟨b,off,h1,hP b h2,h3⟩,h4⟩
theorem ExtIn.exts {w:World} {P:Nat→Prop} {B:Nat} {A:Option Addr} {L:List Ex} (h:ExtIn w P A L) (hP:∀b,P b→b<B):Exts w B A L:=fun i x hx=>by
 obtain⟨⟨b,off,h1,h2,h3,h3'⟩,h4⟩:=h i x hx
 exact⟨⟨b,off,h1,hP b h2,h3,h3'⟩,h4⟩
theorem Je7 {α:Type} {i:Nat} {x:α} (h:([]:List α)[i]?=some x):False:=by simp at h
def whiteN:Nd:= .mk 4 false [] [] 0 [] ⟨#[]⟩
def linkN (t:ByteArray):Nd:= .mk 3 false [] [] 0 [] t
def textN (s:ByteArray):Nd:= .mk 1 false [] [] (s.size:Int) (ofB s) ⟨#[]⟩
def dirN (N:List ByteArray) (I:List Nd):Nd:= .mk 2 false N I 0 [] ⟨#[]⟩
theorem fit0 (K:Int) (t:ByteArray) (h1: -9223372036854775808≤K) (h2:K≤9223372036854775807) (ht:t.size≤140737488355328):Fit (.mk K false [] [] 0 [] t) raw0:=
 ⟨h1,h2,show (-9223372036854775808:Int)≤0 by decide,show (0:Int)≤9223372036854775807 by decide,ht,show 0*16≤140737488355328 by decide,show 0*112≤140737488355328 by decide,show 0*24≤140737488355328 by decide,Nat.zero_le _,Nat.zero_le _,Nat.zero_le _,fun _=>⟨rfl,rfl⟩,fun _=>⟨rfl,rfl⟩,fun _=>⟨rfl,rfl⟩⟩
theorem Jo2 (w:World) (B:Nat) (K:Int) (t:ByteArray) (h:Fit (.mk K false [] [] 0 [] t) raw0):NdAt w B (.mk K false [] [] 0 [] t) raw0:=
 .mk (fun _=>raw0) h (fun _ _ hx=>(Je7 hx).elim) (fun _ _ hx=>(Je7 hx).elim) (fun _ _ hx=>(Je7 hx).elim) (fun _ _ hx=>(Je7 hx).elim)

theorem Jor (w:World) (g:Nat) (n:Nd) (q:Raw):((((((w.setCell ⟨g,0,none⟩ (.int .i64 n.K)).setCell ⟨g,1,none⟩ (.bool n.O)).setCell ⟨g,2,none⟩ (.slice q.An n.N.length q.cn)).setCell ⟨g,3,none⟩ (.slice q.Ai n.I.length q.ci)).setCell ⟨g,4,none⟩ (.int .i64 n.S)).setCell ⟨g,5,none⟩ (.slice q.Ae n.E.length q.ce)).setCell ⟨g,6,none⟩ (.string n.T)=w.setCells g 0 (rawCells n q).toList:=rfl

theorem fitD (N:List ByteArray) (I:List Nd) (A B:Option Addr) (c d:Nat) (h1:N.length*16≤140737488355328) (h2:I.length*112≤140737488355328) (hc:N.length≤c) (hd:I.length≤d) (hz:A=none→N.length=0∧c=0) (hy:B=none→I.length=0∧d=0):Fit (dirN N I) ⟨A,c,B,d,none,0⟩:=
 ⟨show (-9223372036854775808:Int)≤2 by decide,show (2:Int)≤9223372036854775807 by decide,show (-9223372036854775808:Int)≤0 by decide,show (0:Int)≤9223372036854775807 by decide,show (⟨#[]⟩:ByteArray).size≤140737488355328 by decide,h1,h2,show 0*24≤140737488355328 by decide,hc,hd,Nat.zero_le _,hz,hy,fun _=>⟨rfl,rfl⟩⟩
set_option maxHeartbeats 3200000 in
theorem Jos (A1 A2:Option Addr) (c1 c2:Nat) (N:List ByteArray) (I:List Nd) (rs:Nat→Raw) (w:World) (hT:Txts w w.heap.size A1 N) (hL:Lies w A2 (rowCells I rs)) (hI:∀(i:Nat) (x:Nd),I[i]?=some x→NdAt w w.heap.size x (rs i))
  (h1:N.length*16≤140737488355328) (h2:I.length*112≤140737488355328) (hz1:A1=none→N.length=0∧c1=0) (hz2:A2=none→I.length=0∧c2=0):
  Calls Tryz.prog 23 #[.slice A1 N.length c1,.slice A2 I.length c2] w (Built (dirN N I) w):=by
 obtain⟨W1,hW1⟩:=words.nm (w.alloc (.cells (rawCells nd0 raw0) 81))
 have hb1:=words.b1 hW1
 have hX1:Box W1 w.heap.size nd0 raw0:=by rw [hW1];exact Box.new w nd0 raw0
 have hW1':W1=w.alloc (.cells #[.int .i64 0,.bool false,.slice none 0 0,.slice none 0 0,.int .i64 0,.slice none 0 0,.string ⟨#[]⟩] 81):=hW1
 have HW1:=Lib.hid hW1'
 have HX1:=Lib.hid hX1
 have HB1:=Lib.hid hb1
 have HL1:=Lib.hid (Jf7 A1 N.length c1 _ W1 (Jfu ((hT.keep hb1).more hb1.size)) hz1 h1 (by rw [List.length_map,Nat.mul_one]) (Jbe N))
 have HL:=Lib.hid hL
 have HI:=Lib.hid hI
 have HT:=Lib.hid hT
 clear hW1 hW1' hX1 hb1 hL hI hT
 go_enter Tryz.func23,Tryz.ntmps23
 go_upto_region 1 with fail
 rw [←HW1.out]
 go_wp2_with fail
 refine (HL1.out.mono fun _ _ h=>Jgj h).mono ?_
 rintro e w2 ⟨A3,c3,rfl,h31,h32,hown3,hb2⟩
 have hB2:Below w.heap.size w w2:=HB1.out.trans (hb2.mono HB1.out.size)
 have HL2:=Lib.hid (Jpe A2 I.length c2 _ w2 (Below.lies HL.out hB2) hz2 h2 (Jbb I rs) (Jdu I rs))
 have HO3:=Lib.hid hown3
 have HB2:=Lib.hid hb2
 have HH:=Lib.hid (And.intro h31 h32)
 clear hown3 hb2 hB2 h31 h32
 go_wp2_with fail
 refine (HL2.out.mono fun _ _ h=>Jgj h).mono ?_
 rintro e w4 ⟨A4,c4,rfl,h41,h42,hown4,hb4⟩
 have hO4:Box w4 w.heap.size nd0 raw0:=(HX1.out.below HB2.out).below hb4
 have hB4:Below w.heap.size w w4:=(HB1.out.trans (HB2.out.mono HB1.out.size)).trans (hb4.mono (HB1.out.trans (HB2.out.mono HB1.out.size)).size)
 have hl1:=HX1.out.lt
 have hl2:=HB2.out.size
 have z0:=Jab hO4 0
 have z1:=Jab hO4 1
 have z2:=Jab hO4 2
 have z3:=Jab hO4 3
 have z4:=Jab hO4 4
 have z5:=Jab hO4 5
 have z6:=Jab hO4 6
 obtain⟨d0,d1,d2,d3,d4,d5,d6⟩:=hO4.cells
 obtain⟨q,hq⟩:∃q:Raw,q=⟨A3,c3,A4,c4,none,0⟩:=⟨_,rfl⟩
 have hob:=hO4.over (m:=dirN N I) (q:=q)
 have hs4:=size_setCells w.heap.size (rawCells (dirN N I) q).toList 0 w4
 have hBd:=below_setCells (w:=w) (B:=w.heap.size) (g:=w.heap.size) (Nat.le_refl _) (rawCells (dirN N I) q).toList 0 w4 hB4
 obtain⟨Wd,hWd⟩:=words.nm (w4.setCells w.heap.size 0 (rawCells (dirN N I) q).toList)
 rw [←hWd] at hob hs4 hBd
 have oth:∀b,b<w4.heap.size→b≠w.heap.size→Wd.heap[b]?=w4.heap[b]?:=fun b k1 k2=>by rw [hWd];exact World.heap_setCells_other w4 _ _ _ k1 k2
 have hl4:=hb4.size
 have hNm:Txts Wd Wd.heap.size A3 N:=((Jpb HO3.out (fun i x hx=>(HT.out i x hx).2)).keep (P':=fun b=>b<Wd.heap.size) fun b hk=>⟨(oth b (by omega) (by omega)).trans (hb4.block b hk.2),by omega⟩).txts fun b hk=>hk
 have hN:NdAt Wd Wd.heap.size (dirN N I) q:=by
  rw [hq]
  refine .mk rs (fitD N I A3 A4 c3 c4 h1 h2 HH.out.1 h41 HH.out.2 h42) hNm (fun _ _ hx=>(Je7 hx).elim) (fun i x hx=>?_) (fun i x hx=>((HI.out i x hx).keep hBd).more hBd.size)
  have h0:=Jba (rs:=rs) hx 0 _ rfl
  obtain⟨g,cur,g1,g2,g3,g4,g5⟩:=own_cell hown4 h0
  refine⟨g,0,g1,by omega,fun j v hj=>?_⟩
  obtain⟨g',_,g1',_,_,_,g5'⟩:=own_cell hown4 (Jba (rs:=rs) hx j v hj)
  rw [g1] at g1'
  injection g1' with g1'
  injection g1' with g1'
  subst g1'
  rw [show 0+i*7+j=i*7+j by omega]
  exact (World.cell?_of_block (a:=⟨g,i*7+j,none⟩) (oth g g3 (by omega))).trans g5'
 obtain⟨p0,p1,p2,p3,p4,p5,p6⟩:=hob.cells
 have hWd':((((((w4.setCell ⟨w.heap.size,0,none⟩ (.int .i64 2)).setCell ⟨w.heap.size,1,none⟩ (.bool false)).setCell ⟨w.heap.size,2,none⟩ (.slice A3 N.length c3)).setCell ⟨w.heap.size,3,none⟩ (.slice A4 I.length c4)).setCell ⟨w.heap.size,4,none⟩ (.int .i64 0)).setCell ⟨w.heap.size,5,none⟩ (.slice none 0 0)).setCell ⟨w.heap.size,6,none⟩ (.string ⟨#[]⟩)=Wd:=by rw [hWd,hq];rfl
 have HWd:=Lib.hid hWd'
 have HN:=Lib.hid hN
 have HBd:=Lib.hid hBd
 clear hWd hWd' hN hNm hBd hq hown4 hb4 hob hs4 oth h41 h42
 go_wp2_with fail
 rw [HWd.out]
 exact bodyPost_ret (v:=ndV (dirN N I) q) (by unfold ndV rawCells;simp [results,Tryz.results23,go_sem,p0,p1,p2,p3,p4,p5,p6]) rfl ⟨q,rfl,HN.out,HBd.out⟩


def ab:ByteArray:=⟨#[97]⟩
def bb:ByteArray:=⟨#[98]⟩
def As (n:Nd) (v:Raw→Value) (w:World) (e:Ending) (w':World):Prop:=∃r',e= .returned (v r')∧NdAt w' w'.heap.size n r'∧Below w.heap.size w w'
theorem Built.as {n:Nd} {w w':World} {e:Ending} {v:Raw→Value} (hv:∀r,ndV n r=v r) (h:Built n w e w'):As n v w e w':=by
 obtain⟨r',h1,h2,h3⟩:=h
 exact⟨r',by rw [h1,hv],h2,h3⟩
theorem Jn2 (w:World) (a:ByteArray) (ha:a.size≤140737488355328):
  Txts (w.alloc (.cells #[.string a] 9)) (w.alloc (.cells #[.string a] 9)).heap.size (some ⟨w.heap.size,0,none⟩) [a]:=fun i x hx=>by
 have hlt:=(List.getElem?_eq_some_iff.1 hx).1
 have:i=0:=by simp at hlt;omega
 subst this
 obtain rfl:a=x:=by simpa using hx
 exact⟨⟨w.heap.size,0,rfl,by simp,by simp⟩,ha⟩
theorem Jop (a:ByteArray) (x:Nd) (rx:Raw) (t:Nat) (w3 W4:World) (hW4:W4=w3.alloc (.cells (rawCells x rx) 81)) (hT:Txts W4 W4.heap.size (some ⟨t,0,none⟩) [a]) (hx:NdAt w3 w3.heap.size x rx):
  Calls Tryz.prog 23 #[.slice (some ⟨t,0,none⟩) 1 1,.slice (some ⟨w3.heap.size,0,none⟩) 1 1] W4 (Built (dirN [a] [x]) W4):=by
 have hb:Below w3.heap.size w3 W4:=by rw [hW4];exact (Below.refl _ _).alloc (Nat.le_refl _) _
 have hblk:W4.heap[w3.heap.size]?=some (.cells (rawCells x rx) 81 (0,0)):=by rw [hW4];exact heap_alloc_new w3 _
 refine Jos (some ⟨t,0,none⟩) (some ⟨w3.heap.size,0,none⟩) 1 1 [a] [x] (fun _=>rx) W4 hT (fun j u hu=>?_) (fun i z hz=>?_) (show 1*16≤140737488355328 by decide) (show 1*112≤140737488355328 by decide) (fun h=>by cases h) (fun h=>by cases h)
 ·refine⟨w3.heap.size,0,rfl,lt_of_some hblk,?_⟩
  rw [Nat.zero_add]
  have hu':((rawCells x rx).toList++[])[j]?=some u:=hu
  rw [List.append_nil] at hu'
  unfold World.cell?
  rw [hblk]
  simpa using hu'
 ·have hlt:=(List.getElem?_eq_some_iff.1 hz).1
  have:i=0:=by simp at hlt;omega
  subst this
  obtain rfl:x=z:=by simpa using hz
  exact hx.later hb

def Sees (w' W1:World) (g:Nat) (n:Nd) (r:Raw):Prop:=
 w'.cell? ⟨g,0,none⟩=some (.int .i64 n.K)∧w'.cell? ⟨g,1,none⟩=some (.bool n.O)∧w'.cell? ⟨g,2,none⟩=some (.slice r.An n.N.length r.cn)∧
  w'.cell? ⟨g,3,none⟩=some (.slice r.Ai n.I.length r.ci)∧w'.cell? ⟨g,4,none⟩=some (.int .i64 n.S)∧w'.cell? ⟨g,5,none⟩=some (.slice r.Ae n.E.length r.ce)∧w'.cell? ⟨g,6,none⟩=some (.string n.T)∧Below W1.heap.size W1 w'
theorem Box.sees {w' W1:World} {g:Nat} {n:Nd} {r:Raw} (h:Box W1 g n r) (hb:Below W1.heap.size W1 w'):Sees w' W1 g n r:=by
 obtain⟨b0,b1,b2,b3,b4,b5,b6⟩:=(h.below hb).cells
 exact⟨b0,b1,b2,b3,b4,b5,b6,hb⟩
end Go.Proofs.YtckjkndegjklnaaGreatDoor.tre

namespace Go.Proofs.YtckjkndegjklnaaGreatDoor.ext
set_option maxRecDepth 100000
open Go.ChangeShapes Go.WideShapes Go.RowKit words

theorem two {α:Type} {l:List α} (h:l.length=2):∃a b,l=[a,b]:=by
 match l,h with
 |[a,b],_=>exact⟨a,b,rfl⟩
theorem cellsStr:Tryz.prog.cellsOf 9=1:=by kernel_rfl
def Sized {H:Type} (t:TypeId) (d:DataW H):Prop:=∀n∈d.weights Tryz.prog t,n≤reachBytes
section
variable {H:Type} {enc:TypeId×Value→H} {W:World} {base:Nat} {spare:Nat→Bool} {held:Bool}
theorem Jaw {P:Program} {e:TypeId}:∀{l:List (DataW H)} {d:DataW H},d∈l→∀n∈d.weights P e,n∈DataW.weightsAll P e l
 |[],_,h,_,_=>by cases h
 |x::l,d,h,n,hn=>by
  simp only [DataW.weightsAll,List.mem_append]
  rcases List.mem_cons.1 h with rfl |h
  ·exact .inl hn
  ·exact .inr (Jaw h n hn)
end
end Go.Proofs.YtckjkndegjklnaaGreatDoor.ext

namespace Go.Proofs.YtckjkndegjklnaaGreatDoor.tre
set_option maxRecDepth 100000
open Go.ChangeShapes Go.WideShapes Go.RowKit words ext name

instance:Inhabited Nd:=⟨nd0⟩
instance:Inhabited Raw:=⟨raw0⟩
theorem bytesStr:Tryz.prog.bytesOf 9=16:=by kernel_rfl
theorem cellsBool:Tryz.prog.cellsOf 4=1:=by kernel_rfl
theorem seven {α:Type} {l:List α} (h:l.length=7):∃a b c d e f g,l=[a,b,c,d,e,f,g]:=by
 match l,h with
 |[a,b,c,d,e,f,g],_=>exact⟨a,b,c,d,e,f,g,rfl⟩
section
variable {H:Type} {enc:TypeId×Value→H} {W:World} {base:Nat} {spare:Nat→Bool} {held:Bool}
theorem Jeh {t e:TypeId} (hu:Tryz.prog.underlying t=some (.slice e)) {fuel:Nat} {a0:Option Addr} {len cap:Nat} {x:DataW H×List MemPlace} (h:DataW.trod enc Tryz.prog W base spare held fuel t [.slice a0 len cap]=some x) (hs:Sized t x.1):
  len*Tryz.prog.bytesOf e≤140737488355328∧len≤cap∧(a0=none→len=0∧cap=0):=by
 rcases DataW.trod_slice hu h with⟨hc,_⟩ |⟨a,l,c,elems,rest,n,_,hc,hx,_,hl,_,hlen,_⟩
 ·simp at hc
  obtain⟨rfl,rfl,rfl⟩:=hc
  exact⟨by omega,Nat.le_refl _,fun _=>⟨rfl,rfl⟩⟩
 ·simp at hc
  obtain⟨rfl,rfl,rfl⟩:=hc
  subst hx
  have hw:=hs _ (by
    simp only [DataW.weights,hu]
    exact List.mem_cons_self ..)
  rw [List.length_map,List.length_map,hlen] at hw
  have hr:=reachBytes_lt
  have:len*Tryz.prog.bytesOf e≤(len+rest.length)*Tryz.prog.bytesOf e:=Nat.mul_le_mul_right _ (Nat.le_add_right _ _)
  exact⟨by omega,hl,fun h=>by cases h⟩
theorem Jgt {s:ByteArray} {x:DataW H×List MemPlace} (hx:x.1= .lit (.string s.data.toList)) (hs:Sized 9 x.1):s.size≤140737488355328:=by
 have:=hs s.data.toList.length (by rw [hx];simp [DataW.weights])
 rw [ext.size_list] at this
 have hr:=reachBytes_lt
 omega
theorem Jfe {t e:TypeId} (hu:Tryz.prog.underlying t=some (.slice e)) {fuel:Nat} {a:Addr} {len cap:Nat} {x:DataW H×List MemPlace} (h:DataW.trod enc Tryz.prog W base spare held fuel t [.slice (some a) len cap]=some x) (hs:Sized t x.1):
  ∃n,fuel=n+1∧∀i,i<len→∃cs d,W.cells? base (a.add (i*Tryz.prog.cellsOf e)) (Tryz.prog.cellsOf e)=some cs∧DataW.trod enc Tryz.prog W base spare held n e cs=some d∧Sized e d.1:=by
 rcases DataW.trod_slice hu h with⟨hc,_⟩ |⟨a',l,c,elems,rest,n,hfu,hc,hx,_,_,_,hlen,hel,_⟩
 ·simp at hc
 ·simp at hc
  obtain⟨rfl,rfl,rfl⟩:=hc
  subst hx
  refine⟨n,hfu,fun i hi=>?_⟩
  have key:=hel i hi
  rw [List.getElem?_eq_getElem (by omega)] at key
  obtain⟨cs,h1,h2⟩:=Option.bind_eq_some_iff.1 key
  refine⟨cs,_,h1,h2,fun k hk=>hs k ?_⟩
  simp only [DataW.weights,hu]
  exact List.mem_cons_of_mem _ (List.mem_append_left _ (Jaw (List.mem_map.2 ⟨_,List.getElem_mem (by omega),rfl⟩) k hk))
end
end Go.Proofs.YtckjkndegjklnaaGreatDoor.tre
