import Derived.Test.YtkjpgheealfedaaGreatDoorJG
import Derived.Test.YtkjpgheealfedaaGreatDoorJB9
import Derived.Test.YtkjpgheealfedaaGreatDoorRows
import Derived.ProofKit
import Derived.OpenShut
import Derived.Deep.Slices
set_option maxHeartbeats 3200000
set_option maxRecDepth 100000
open Go.Lib (hid)
open Go.Proofs.Tryz
namespace Go.Proofs.YtkjpgheealfedaaGreatDoor.tre
open Go.RowKit words ext name

def Built (n:Nd) (w:World) (e:Ending) (w':World):Prop:=∃r',e= .returned (ndV n r')∧NdAt w' w'.heap.size n r'∧Below w.heap.size w w'
theorem TxtIn.txts {w:World} {P:Nat→Prop} {B:Nat} {A:Option Addr} {Q:List ByteArray} (h:TxtIn w P A Q) (hP:∀b,P b→b<B):Txts w B A Q:=fun i x hx=>by
 obtain⟨⟨b,off,h1,h2,h3⟩,h4⟩:=h i x hx;exact⟨⟨b,off,h1,hP b h2,h3⟩,h4⟩
theorem ExtIn.exts {w:World} {P:Nat→Prop} {B:Nat} {A:Option Addr} {L:List Ex} (h:ExtIn w P A L) (hP:∀b,P b→b<B):Exts w B A L:=fun i x hx=>by
 obtain⟨⟨b,off,h1,h2,h3,h3'⟩,h4⟩:=h i x hx;exact⟨⟨b,off,h1,hP b h2,h3,h3'⟩,h4⟩
theorem Jgi {α:Type} {i:Nat} {x:α} (h:([]:List α)[i]?=some x):False:=by simp at h
def whiteN:Nd:= .mk 4 false [] [] 0 [] ⟨#[]⟩
def linkN (t:ByteArray):Nd:= .mk 3 false [] [] 0 [] t
def textN (s:ByteArray):Nd:= .mk 1 false [] [] (s.size:Int) (ofB s) ⟨#[]⟩
def dirN (N:List ByteArray) (I:List Nd):Nd:= .mk 2 false N I 0 [] ⟨#[]⟩
theorem fit0 (K:Int) (t:ByteArray) (h1: -9223372036854775808≤K) (h2:K≤9223372036854775807) (ht:t.size≤140737488355328):Fit (.mk K false [] [] 0 [] t) raw0:=
 ⟨h1,h2,show (-9223372036854775808:Int)≤0 by decide,show (0:Int)≤9223372036854775807 by decide,ht,show 0*16≤140737488355328 by decide,show 0*112≤140737488355328 by decide,show 0*24≤140737488355328 by decide,Nat.zero_le _,Nat.zero_le _,Nat.zero_le _,fun _=>⟨rfl,rfl⟩,fun _=>⟨rfl,rfl⟩,fun _=>⟨rfl,rfl⟩⟩
theorem Jrl (w:World) (B:Nat) (K:Int) (t:ByteArray) (h:Fit (.mk K false [] [] 0 [] t) raw0):NdAt w B (.mk K false [] [] 0 [] t) raw0:=
 .mk (fun _=>raw0) h (fun _ _ hx=>(Jgi hx).elim) (fun _ _ hx=>(Jgi hx).elim) (fun _ _ hx=>(Jgi hx).elim) (fun _ _ hx=>(Jgi hx).elim)

theorem Jr0 (w:World) (g:Nat) (n:Nd) (q:Raw):((((((w.setCell ⟨g,0,none⟩ (.int .i64 n.K)).setCell ⟨g,1,none⟩ (.bool n.O)).setCell ⟨g,2,none⟩ (.slice q.An n.N.length q.cn)).setCell ⟨g,3,none⟩ (.slice q.Ai n.I.length q.ci)).setCell ⟨g,4,none⟩ (.int .i64 n.S)).setCell ⟨g,5,none⟩ (.slice q.Ae n.E.length q.ce)).setCell ⟨g,6,none⟩ (.string n.T)=w.setCells g 0 (rawCells n q).toList:=rfl

theorem fitD (N:List ByteArray) (I:List Nd) (A B:Option Addr) (c d:Nat) (h1:N.length*16≤140737488355328) (h2:I.length*112≤140737488355328) (hc:N.length≤c) (hd:I.length≤d) (hz:A=none→N.length=0∧c=0) (hy:B=none→I.length=0∧d=0):Fit (dirN N I) ⟨A,c,B,d,none,0⟩:=
 ⟨show (-9223372036854775808:Int)≤2 by decide,show (2:Int)≤9223372036854775807 by decide,show (-9223372036854775808:Int)≤0 by decide,show (0:Int)≤9223372036854775807 by decide,show (⟨#[]⟩:ByteArray).size≤140737488355328 by decide,h1,h2,show 0*24≤140737488355328 by decide,hc,hd,Nat.zero_le _,hz,hy,fun _=>⟨rfl,rfl⟩⟩
theorem Jru (A1 A2:Option Addr) (c1 c2:Nat) (N:List ByteArray) (I:List Nd) (rs:Nat→Raw) (w:World) (hT:Txts w w.heap.size A1 N) (hL:Lies w A2 (rowCells I rs)) (hI:∀(i:Nat) (x:Nd),I[i]?=some x→NdAt w w.heap.size x (rs i))
  (h1:N.length*16≤140737488355328) (h2:I.length*112≤140737488355328) (hz1:A1=none→N.length=0∧c1=0) (hz2:A2=none→I.length=0∧c2=0):
  Calls prog 17 #[.slice A1 N.length c1,.slice A2 I.length c2] w (Built (dirN N I) w):=by
 obtain⟨W1,hW1⟩:=words.nm (w.alloc (.cells (rawCells nd0 raw0) 70));have hb1:=words.b1 hW1;have hX1:Box W1 w.heap.size nd0 raw0:=by rw [hW1];exact Box.new w nd0 raw0
 have hW1':W1=w.alloc (.cells #[.int .i64 0,.bool false,.slice none 0 0,.slice none 0 0,.int .i64 0,.slice none 0 0,.string ⟨#[]⟩] 70):=hW1;have HW1:=hid hW1';have HX1:=hid hX1;have HB1:=hid hb1;have HL1:=hid (Jg9 A1 N.length c1 _ W1 (Jhp ((hT.keep hb1).more hb1.size)) hz1 h1 (by rw [List.length_map,Nat.mul_one]) (Jbt N));have HL:=hid hL;have HI:=hid hI;have HT:=hid hT;clear hW1 hW1' hX1 hb1 hL hI hT;go_enter func17,ntmps17
 go_upto_region 1 with fail
 rw [←HW1.out];go_wp2_with fail
 refine (HL1.out.mono fun _ _ h=>Jiy h).mono ?_;rintro e w2 ⟨A3,c3,rfl,h31,h32,hown3,hb2⟩;have hB2:Below w.heap.size w w2:=HB1.out.trans (hb2.mono HB1.out.size);have HL2:=hid (Jsd A2 I.length c2 _ w2 (Below.lies HL.out hB2) hz2 h2 (Jbk I rs) (Jbg I rs));have HO3:=hid hown3;have HB2:=hid hb2;have HH:=hid (And.intro h31 h32);clear hown3 hb2 hB2 h31 h32;go_wp2_with fail
 refine (HL2.out.mono fun _ _ h=>Jiy h).mono ?_;rintro e w4 ⟨A4,c4,rfl,h41,h42,hown4,hb4⟩;have hO4:Box w4 w.heap.size nd0 raw0:=(HX1.out.below HB2.out).below hb4;have hB4:Below w.heap.size w w4:=(HB1.out.trans (HB2.out.mono HB1.out.size)).trans (hb4.mono (HB1.out.trans (HB2.out.mono HB1.out.size)).size);have hl1:=HX1.out.lt;have hl2:=HB2.out.size;have z0:=Jab hO4 0;have z1:=Jab hO4 1;have z2:=Jab hO4 2;have z3:=Jab hO4 3;have z4:=Jab hO4 4;have z5:=Jab hO4 5;have z6:=Jab hO4 6;obtain⟨d0,d1,d2,d3,d4,d5,d6⟩:=hO4.cells;obtain⟨q,hq⟩:∃q:Raw,q=⟨A3,c3,A4,c4,none,0⟩:=⟨_,rfl⟩
 have hob:=hO4.over (m:=dirN N I) (q:=q);have hs4:=size_setCells w.heap.size (rawCells (dirN N I) q).toList 0 w4;have hBd:=below_setCells (w:=w) (B:=w.heap.size) (g:=w.heap.size) (Nat.le_refl _) (rawCells (dirN N I) q).toList 0 w4 hB4;obtain⟨Wd,hWd⟩:=words.nm (w4.setCells w.heap.size 0 (rawCells (dirN N I) q).toList);rw [←hWd] at hob hs4 hBd;have oth:∀b,b<w4.heap.size→b≠w.heap.size→Wd.heap[b]?=w4.heap[b]?:=fun b k1 k2=>by rw [hWd];exact World.heap_setCells_other w4 _ _ _ k1 k2
 have hl4:=hb4.size;have hNm:Txts Wd Wd.heap.size A3 N:=((Jrz HO3.out (fun i x hx=>(HT.out i x hx).2)).keep (P':=fun b=>b<Wd.heap.size) fun b hk=>⟨(oth b (by omega) (by omega)).trans (hb4.block b hk.2),by omega⟩).txts fun b hk=>hk;have hN:NdAt Wd Wd.heap.size (dirN N I) q:=by
  rw [hq];refine .mk rs (fitD N I A3 A4 c3 c4 h1 h2 HH.out.1 h41 HH.out.2 h42) hNm (fun _ _ hx=>(Jgi hx).elim) (fun i x hx=>?_) (fun i x hx=>((HI.out i x hx).keep hBd).more hBd.size);have h0:=Ja8 (rs:=rs) hx 0 _ rfl;obtain⟨g,cur,g1,g2,g3,g4,g5⟩:=own_cell hown4 h0;refine⟨g,0,g1,by omega,fun j v hj=>?_⟩;obtain⟨g',_,g1',_,_,_,g5'⟩:=own_cell hown4 (Ja8 (rs:=rs) hx j v hj);rw [g1] at g1';injection g1' with g1';injection g1' with g1';subst g1';rw [show 0+i*7+j=i*7+j by omega];exact (World.cell?_of_block (a:=⟨g,i*7+j,none⟩) (oth g g3 (by omega))).trans g5'
 obtain⟨p0,p1,p2,p3,p4,p5,p6⟩:=hob.cells;have hWd':((((((w4.setCell ⟨w.heap.size,0,none⟩ (.int .i64 2)).setCell ⟨w.heap.size,1,none⟩ (.bool false)).setCell ⟨w.heap.size,2,none⟩ (.slice A3 N.length c3)).setCell ⟨w.heap.size,3,none⟩ (.slice A4 I.length c4)).setCell ⟨w.heap.size,4,none⟩ (.int .i64 0)).setCell ⟨w.heap.size,5,none⟩ (.slice none 0 0)).setCell ⟨w.heap.size,6,none⟩ (.string ⟨#[]⟩)=Wd:=by rw [hWd,hq];rfl
 have HWd:=hid hWd';have HN:=hid hN;have HBd:=hid hBd;clear hWd hWd' hN hNm hBd hq hown4 hb4 hob hs4 oth h41 h42;go_wp2_with fail
 rw [HWd.out];exact bodyPost_ret (v:=ndV (dirN N I) q) (by unfold ndV rawCells;simp [results,results17,go_sem,p0,p1,p2,p3,p4,p5,p6]) rfl ⟨q,rfl,HN.out,HBd.out⟩


def ab:ByteArray:=⟨#[97]⟩
def bb:ByteArray:=⟨#[98]⟩
def As (n:Nd) (v:Raw→Value) (w:World) (e:Ending) (w':World):Prop:=∃r',e= .returned (v r')∧NdAt w' w'.heap.size n r'∧Below w.heap.size w w'
theorem Built.as {n:Nd} {w w':World} {e:Ending} {v:Raw→Value} (hv:∀r,ndV n r=v r) (h:Built n w e w'):As n v w e w':=by
 obtain⟨r',h1,h2,h3⟩:=h;exact⟨r',by rw [h1,hv],h2,h3⟩
theorem Jpl (w:World) (a:ByteArray) (ha:a.size≤140737488355328):
  Txts (w.alloc (.cells #[.string a] 9)) (w.alloc (.cells #[.string a] 9)).heap.size (some ⟨w.heap.size,0,none⟩) [a]:=fun i x hx=>by
 have hlt:=(List.getElem?_eq_some_iff.1 hx).1;have:i=0:=by simp at hlt;omega
 subst this;obtain rfl:a=x:=by simpa using hx
 exact⟨⟨w.heap.size,0,rfl,by simp,by simp⟩,ha⟩
theorem Jsq (a:ByteArray) (x:Nd) (rx:Raw) (t:Nat) (w3 W4:World) (hW4:W4=w3.alloc (.cells (rawCells x rx) 70)) (hT:Txts W4 W4.heap.size (some ⟨t,0,none⟩) [a]) (hx:NdAt w3 w3.heap.size x rx):
  Calls prog 17 #[.slice (some ⟨t,0,none⟩) 1 1,.slice (some ⟨w3.heap.size,0,none⟩) 1 1] W4 (Built (dirN [a] [x]) W4):=by
 have hb:Below w3.heap.size w3 W4:=words.b1 hW4;have hblk:W4.heap[w3.heap.size]?=some (.cells (rawCells x rx) 70 (0,0)):=by rw [hW4];exact heap_alloc_new w3 _
 refine Jru (some ⟨t,0,none⟩) (some ⟨w3.heap.size,0,none⟩) 1 1 [a] [x] (fun _=>rx) W4 hT (fun j u hu=>?_) (fun i z hz=>?_) (show 1*16≤140737488355328 by decide) (show 1*112≤140737488355328 by decide) (fun h=>by cases h) (fun h=>by cases h)
 ·refine⟨w3.heap.size,0,rfl,lt_of_some hblk,?_⟩
  rw [Nat.zero_add];have hu':((rawCells x rx).toList++[])[j]?=some u:=hu;rw [List.append_nil] at hu';unfold World.cell?;rw [hblk];simpa using hu'
 ·have hlt:=(List.getElem?_eq_some_iff.1 hz).1
  have:i=0:=by simp at hlt;omega
  subst this;obtain rfl:x=z:=by simpa using hz
  exact hx.later hb

def Sees (w' W1:World) (g:Nat) (n:Nd) (r:Raw):Prop:=
 w'.cell? ⟨g,0,none⟩=some (.int .i64 n.K)∧w'.cell? ⟨g,1,none⟩=some (.bool n.O)∧w'.cell? ⟨g,2,none⟩=some (.slice r.An n.N.length r.cn)∧
  w'.cell? ⟨g,3,none⟩=some (.slice r.Ai n.I.length r.ci)∧w'.cell? ⟨g,4,none⟩=some (.int .i64 n.S)∧w'.cell? ⟨g,5,none⟩=some (.slice r.Ae n.E.length r.ce)∧w'.cell? ⟨g,6,none⟩=some (.string n.T)∧Below W1.heap.size W1 w'
theorem Box.sees {w' W1:World} {g:Nat} {n:Nd} {r:Raw} (h:Box W1 g n r) (hb:Below W1.heap.size W1 w'):Sees w' W1 g n r:=by
 obtain⟨b0,b1,b2,b3,b4,b5,b6⟩:=(h.below hb).cells;exact⟨b0,b1,b2,b3,b4,b5,b6,hb⟩
theorem Jfe (c:Int) (n:Nd) (r:Raw) (w:World) (hN:NdAt w w.heap.size n r) (hc:(if smallB n=true then 1 else 0:Int)=c):
  Calls prog 24 #[ndV n r] w fun e w'=>e= .returned (.int .i64 c)∧Below w.heap.size w w':=
 (Jmm n r w hN).mono fun _ _ ⟨he,hw⟩=>⟨by rw [he,hc],hw⟩

end Go.Proofs.YtkjpgheealfedaaGreatDoor.tre

namespace Go.Proofs.YtkjpgheealfedaaGreatDoor.ext
open Go.ChangeShapes Go.WideShapes Go.RowKit words

theorem two {α:Type} {l:List α} (h:l.length=2):∃a b,l=[a,b]:=by
 match l,h with
 |[a,b],_=>exact⟨a,b,rfl⟩
theorem cellsInt:Tryz.prog.cellsOf 3=1:=by kernel_rfl
theorem cellsStr:Tryz.prog.cellsOf 9=1:=by kernel_rfl
theorem cellsExt:Tryz.prog.cellsOf 190=2:=by kernel_rfl
theorem bytesExt:Tryz.prog.bytesOf 190=24:=by kernel_rfl
def Sized {H:Type} (t:TypeId) (d:DataW H):Prop:=∀n∈d.weights prog t,n≤reachBytes
theorem Sized.of_each {H:Type} {ts:List TypeId} {ds:List (DataW H)} (h:(DataW.weightsEach prog ts ds).all (·≤reachBytes)=true) {j:Nat} {t:TypeId} {d:DataW H} (ht:ts[j]?=some t) (hd:ds[j]?=some d):Sized t d:=fun n hn=>by
 have:=List.all_eq_true.1 h _ (DataW.weights_mem_each ht hd n hn);simpa using this
section
variable {H:Type} {enc:TypeId×Value→H} {W:World} {base:Nat} {spare:Nat→Bool} {held:Bool}
theorem Js6 {fuel:Nat} {cs:List Value} {x:DataW H×List MemPlace} (h:DataW.trod enc prog W base spare held fuel 190 cs=some x) (hs:Sized 190 x.1):
  ∃y:Ex,cs=[.int .i64 y.O,.string y.D]∧ -9223372036854775808≤y.O∧y.O≤9223372036854775807∧y.D.size≤140737488355328:=by
 obtain⟨xs,n,_,hxe,hlen,hxl,hf⟩:=DataW.trod_struct underlying190 h;rw [cellsExt] at hlen;obtain⟨c0,c1,rfl⟩:=two hlen;obtain⟨x0,x1,rfl⟩:=two hxl;have g0:DataW.trod enc prog W base spare held n 3 (([c0,c1].drop 0).take (Tryz.prog.cellsOf 3))=some x0:=hf 0 _ rfl;have g1:DataW.trod enc prog W base spare held n 9 (([c0,c1].drop 1).take (Tryz.prog.cellsOf 9))=some x1:=hf 1 _ rfl;rw [cellsInt] at g0;rw [cellsStr] at g1;obtain⟨O,e0,_,wO⟩:=DataW.trod_int underlying3 (show DataW.trod enc prog W base spare held n 3 [c0]=some x0 from g0);obtain⟨D,e1,e1',_⟩:=DataW.trod_string underlying9 (show DataW.trod enc prog W base spare held n 9 [c1]=some x1 from g1);have hb: -9223372036854775808≤O∧O≤9223372036854775807:=by
  simp [Lit.wf,IntKind.min,IntKind.max,IntKind.signed,IntKind.bits] at wO;omega
 have hD:D.size≤140737488355328:=by
  subst hxe;have:=hs D.data.toList.length (by
    rw [e1'];simp [DataW.weights,DataW.weightsEach,underlying190])
  rw [size_list] at this;have hr:=reachBytes_lt;omega
 exact⟨⟨O,D⟩,by simp_all,hb.1,hb.2,hD⟩
theorem Jau {P:Program} {e:TypeId}:∀{l:List (DataW H)} {d:DataW H},d∈l→∀n∈d.weights P e,n∈DataW.weightsAll P e l
 |[],_,h,_,_=>by cases h
 |x::l,d,h,n,hn=>by
  simp only [DataW.weightsAll,List.mem_append];rcases List.mem_cons.1 h with rfl |h
  ·exact .inl hn
  ·exact .inr (Jau h n hn)
theorem Jrp {fuel:Nat} {a0:Option Addr} {len cap:Nat} {x:DataW H×List MemPlace} (h:DataW.trod enc prog W base spare held fuel 68 [.slice a0 len cap]=some x) (hs:Sized 68 x.1):
  ∃L:List Ex,L.length=len∧Exts W W.heap.size a0 L∧len≤140737488355328∧len≤cap:=by
 rcases Deep.open_slice underlying68 h with⟨hc,_⟩ |⟨a,l,c,m,n,D,Pl,hc,_,hl,hm,hmm,hx,hi⟩
 ·simp at hc
  obtain⟨rfl,rfl,rfl⟩:=hc;exact⟨[],rfl,fun i x hx=>by simp at hx,by omega,Nat.le_refl _⟩
 ·simp at hc
  obtain⟨rfl,rfl,rfl⟩:=hc;have hlm:len≤m:=by rw [hmm];split<;>omega
  subst hx;have hw:=hs _ (by
    simp only [DataW.weights,underlying68];exact List.mem_cons_self ..)
  rw [bytesExt,List.length_map,List.length_range,List.length_map,List.length_range] at hw;have hr:=reachBytes_lt;have each:∀i,i<len→∃y:Ex,(-9223372036854775808≤y.O∧y.O≤9223372036854775807∧y.D.size≤140737488355328)∧∀j v,([.int .i64 y.O,.string y.D]:List Value)[j]?=some v→W.cell? ((a.add (i*2)).add j)=some v:=fun i hlt=>by
   obtain⟨cs,hcs,ht⟩:=hi i (by omega);rw [cellsExt] at hcs;have hsi:Sized 190 (D i):=fun k hk=>hs k (by
     simp only [DataW.weights,underlying68];refine List.mem_cons_of_mem _ (List.mem_append_left _ (Jau (d:=D i) (List.mem_map.2 ⟨i,List.mem_range.2 hlt,rfl⟩) k hk)))
   obtain⟨y,rfl,hy⟩:=Js6 ht hsi;obtain⟨_,_,hat⟩:=World.cells?_some hcs;exact⟨y,hy,fun j v hj=>(hat j (by have:=(List.getElem?_eq_some_iff.1 hj).1;simpa using this)).trans hj⟩
  obtain⟨f,hfl⟩:=Deep.choose_lt each;refine⟨(List.range len).map f,by simp,fun i x hx=>?_,by omega,hl⟩;have hlt:i<len:=by
   have:=(List.getElem?_eq_some_iff.1 hx).1;simpa using this
  have hxe:x=f i:=by
   rw [List.getElem?_map,List.getElem?_range hlt] at hx;simpa using hx.symm
  subst hxe;obtain⟨b,off,spot⟩:=a;have h0:=(hfl 0 (by omega)).2 0 _ rfl;have hspot:spot=none:=by simpa [Addr.add] using World.cell?_spot h0
  subst hspot;obtain⟨hb,hc⟩:=hfl i hlt;simp only [add_plain] at hc;have c0:=hc 0 _ rfl;exact⟨⟨b,off,rfl,World.block_lt_of_cell? W _ c0,c0,hc 1 _ rfl⟩,hb⟩
end
theorem int_bounds {n:Int} (h:(Lit.int .i64 n).wf=true): -9223372036854775808≤n∧n≤9223372036854775807:=by
 simp [Lit.wf,IntKind.min,IntKind.max,IntKind.signed,IntKind.bits] at h;omega
end Go.Proofs.YtkjpgheealfedaaGreatDoor.ext

namespace Go.Proofs.YtkjpgheealfedaaGreatDoor.tre
open Go.ChangeShapes Go.WideShapes Go.RowKit words ext name

instance:Inhabited Nd:=⟨nd0⟩
instance:Inhabited Raw:=⟨raw0⟩
theorem cellsNode:Tryz.prog.cellsOf 70=7:=by kernel_rfl
theorem bytesNode:Tryz.prog.bytesOf 70=112:=by kernel_rfl
theorem bytesStr:Tryz.prog.bytesOf 9=16:=by kernel_rfl
theorem cellsBool:Tryz.prog.cellsOf 4=1:=by kernel_rfl
theorem cellsStrs:Tryz.prog.cellsOf 47=1:=by kernel_rfl
theorem cellsNodes:Tryz.prog.cellsOf 22=1:=by kernel_rfl
theorem cellsExts:Tryz.prog.cellsOf 68=1:=by kernel_rfl
theorem seven {α:Type} {l:List α} (h:l.length=7):∃a b c d e f g,l=[a,b,c,d,e,f,g]:=by
 match l,h with
 |[a,b,c,d,e,f,g],_=>exact⟨a,b,c,d,e,f,g,rfl⟩
section
variable {H:Type} {enc:TypeId×Value→H} {W:World} {base:Nat} {spare:Nat→Bool} {held:Bool}
theorem Ja9 {t e:TypeId} (hu:Tryz.prog.underlying t=some (.slice e)) {fuel:Nat} {a0:Option Addr} {len cap:Nat} {x:DataW H×List MemPlace} (h:DataW.trod enc prog W base spare held fuel t [.slice a0 len cap]=some x) (hs:Sized t x.1):
  len*Tryz.prog.bytesOf e≤140737488355328∧len≤cap∧(a0=none→len=0∧cap=0):=by
 rcases DataW.trod_slice hu h with⟨hc,_⟩ |⟨a,l,c,elems,rest,n,_,hc,hx,_,hl,_,hlen,_⟩
 ·simp at hc
  obtain⟨rfl,rfl,rfl⟩:=hc;exact⟨by omega,Nat.le_refl _,fun _=>⟨rfl,rfl⟩⟩
 ·simp at hc
  obtain⟨rfl,rfl,rfl⟩:=hc;subst hx;have hw:=hs _ (by
    simp only [DataW.weights,hu];exact List.mem_cons_self ..)
  rw [List.length_map,List.length_map,hlen] at hw;have hr:=reachBytes_lt;have:len*Tryz.prog.bytesOf e≤(len+rest.length)*Tryz.prog.bytesOf e:=Nat.mul_le_mul_right _ (Nat.le_add_right _ _);exact⟨by omega,hl,fun h=>by cases h⟩
theorem Jds {s:ByteArray} {x:DataW H×List MemPlace} (hx:x.1= .lit (.string s.data.toList)) (hs:Sized 9 x.1):s.size≤140737488355328:=by
 have:=hs s.data.toList.length (by rw [hx];simp [DataW.weights]);rw [ext.size_list] at this;have hr:=reachBytes_lt;omega
theorem Jc6 {t e:TypeId} (hu:Tryz.prog.underlying t=some (.slice e)) {fuel:Nat} {a:Addr} {len cap:Nat} {x:DataW H×List MemPlace} (h:DataW.trod enc prog W base spare held fuel t [.slice (some a) len cap]=some x) (hs:Sized t x.1):
  ∃n,fuel=n+1∧∀i,i<len→∃cs d,W.cells? base (a.add (i*Tryz.prog.cellsOf e)) (Tryz.prog.cellsOf e)=some cs∧DataW.trod enc prog W base spare held n e cs=some d∧Sized e d.1:=by
 rcases DataW.trod_slice hu h with⟨hc,_⟩ |⟨a',l,c,elems,rest,n,hfu,hc,hx,_,_,_,hlen,hel,_⟩
 ·simp at hc
 ·simp at hc
  obtain⟨rfl,rfl,rfl⟩:=hc;subst hx;refine⟨n,hfu,fun i hi=>?_⟩;have key:=hel i hi;rw [List.getElem?_eq_getElem (by omega)] at key;obtain⟨cs,h1,h2⟩:=Option.bind_eq_some_iff.1 key;refine⟨cs,_,h1,h2,fun k hk=>hs k ?_⟩;simp only [DataW.weights,hu];exact List.mem_cons_of_mem _ (List.mem_append_left _ (Jau (List.mem_map.2 ⟨_,List.getElem_mem (by omega),rfl⟩) k hk))
theorem Jrv {fuel:Nat} {a0:Option Addr} {len cap:Nat} {x:DataW H×List MemPlace} (h:DataW.trod enc prog W base spare held fuel 47 [.slice a0 len cap]=some x) (hs:Sized 47 x.1):
  ∃Q:List ByteArray,Q.length=len∧Txts W W.heap.size a0 Q:=by
 rcases a0 with _ |a
 ·obtain⟨rfl,_⟩:=(Ja9 underlying47 h hs).2.2 rfl
  exact⟨[],rfl,fun i x hx=>by simp at hx⟩
 ·obtain⟨n,_,hel⟩:=Jc6 underlying47 h hs
  have each:∀i,i<len→∃y:ByteArray,y.size≤140737488355328∧W.cell? (a.add i)=some (.string y):=fun i hlt=>by
   obtain⟨cs,d,hcs,ht,hsd⟩:=hel i hlt;rw [cellsStr,Nat.mul_one] at hcs;obtain⟨s,rfl,hd,_⟩:=DataW.trod_string underlying9 ht;obtain⟨_,_,hat⟩:=World.cells?_some hcs;have h0:=hat 0 (by omega);have e:(a.add i).add 0=a.add i:=by simp [Addr.add]
   rw [e] at h0;exact⟨s,Jds (by rw [hd]) hsd,h0⟩
  obtain⟨f,hfl⟩:=Deep.choose_lt each;refine⟨(List.range len).map f,by simp,fun i x hx=>?_⟩;have hlt:i<len:=by
   have:=(List.getElem?_eq_some_iff.1 hx).1;simpa using this
  have hxe:x=f i:=by
   rw [List.getElem?_map,List.getElem?_range hlt] at hx;simpa using hx.symm
  subst hxe;obtain⟨b,off,spot⟩:=a;have h0:=(hfl 0 (by omega)).2;have hspot:spot=none:=by simpa [Addr.add] using World.cell?_spot h0
  subst hspot;have hcell:=(hfl i hlt).2;rw [add_plain] at hcell;exact⟨⟨b,off,rfl,World.block_lt_of_cell? W _ hcell,hcell⟩,(hfl i hlt).1⟩
theorem Jd5 {t e:TypeId} (hu:Tryz.prog.underlying t=some (.slice e)) {fuel:Nat} {c:Value} {x:DataW H×List MemPlace} (h:DataW.trod enc prog W base spare held fuel t [c]=some x):∃a len cap,c= .slice a len cap:=by
 rcases DataW.trod_slice hu h with⟨hc,_⟩ |⟨a,l,c',_,_,_,_,hc,_⟩
 ·exact⟨_,_,_,by simpa using hc⟩
 ·exact⟨_,_,_,by simpa using hc⟩
theorem Jrk:∀(fuel:Nat) (cs:List Value) (x:DataW H×List MemPlace),DataW.trod enc prog W base spare held fuel 70 cs=some x→Sized 70 x.1→∃n r,cs=(rawCells n r).toList∧NdAt W W.heap.size n r:=by
 intro fuel
 induction fuel using Nat.strongRecOn with
 |ind fuel ih=>
  intro cs x h hs;obtain⟨xs,m,hfu,hxe,hlen,hxl,hf⟩:=DataW.trod_struct underlying70 h;rw [cellsNode] at hlen;obtain⟨c0,c1,c2,c3,c4,c5,c6,rfl⟩:=seven hlen;obtain⟨x0,x1,x2,x3,x4,x5,x6,rfl⟩:=seven hxl;have sz:∀(j:Nat) (t:TypeId) (d:DataW H),([3,4,47,22,3,68,9]:List TypeId)[j]?=some t→([x0.1,x1.1,x2.1,x3.1,x4.1,x5.1,x6.1]:List (DataW H))[j]?=some d→Sized t d:=fun j t d ht hd k hk=>hs k (by
    rw [hxe];simp only [DataW.weights,underlying70];exact DataW.weights_mem_each (j:=j) ht hd k hk)
  have g0:DataW.trod enc prog W base spare held m 3 (([c0,c1,c2,c3,c4,c5,c6].drop 0).take (Tryz.prog.cellsOf 3))=some x0:=hf 0 _ rfl;have g1:DataW.trod enc prog W base spare held m 4 (([c0,c1,c2,c3,c4,c5,c6].drop 1).take (Tryz.prog.cellsOf 4))=some x1:=hf 1 _ rfl;have g2:DataW.trod enc prog W base spare held m 47 (([c0,c1,c2,c3,c4,c5,c6].drop 2).take (Tryz.prog.cellsOf 47))=some x2:=hf 2 _ rfl;have g3:DataW.trod enc prog W base spare held m 22 (([c0,c1,c2,c3,c4,c5,c6].drop 3).take (Tryz.prog.cellsOf 22))=some x3:=hf 3 _ rfl;have g4:DataW.trod enc prog W base spare held m 3 (([c0,c1,c2,c3,c4,c5,c6].drop 4).take (Tryz.prog.cellsOf 3))=some x4:=hf 4 _ rfl;have g5:DataW.trod enc prog W base spare held m 68 (([c0,c1,c2,c3,c4,c5,c6].drop 5).take (Tryz.prog.cellsOf 68))=some x5:=hf 5 _ rfl;have g6:DataW.trod enc prog W base spare held m 9 (([c0,c1,c2,c3,c4,c5,c6].drop 6).take (Tryz.prog.cellsOf 9))=some x6:=hf 6 _ rfl;rw [cellsInt] at g0 g4;rw [cellsBool] at g1;rw [cellsStrs] at g2;rw [cellsNodes] at g3;rw [cellsExts] at g5;rw [cellsStr] at g6;obtain⟨K,e0,_,wK⟩:=DataW.trod_int underlying3 (show DataW.trod enc prog W base spare held m 3 [c0]=some x0 from g0);obtain⟨O,e1,_⟩:=DataW.trod_bool underlying4 (show DataW.trod enc prog W base spare held m 4 [c1]=some x1 from g1);obtain⟨An,ln,cn,rfl⟩:=Jd5 underlying47 (show DataW.trod enc prog W base spare held m 47 [c2]=some x2 from g2);obtain⟨Ai,li,ci,rfl⟩:=Jd5 underlying22 (show DataW.trod enc prog W base spare held m 22 [c3]=some x3 from g3);obtain⟨S,e4,_,wS⟩:=DataW.trod_int underlying3 (show DataW.trod enc prog W base spare held m 3 [c4]=some x4 from g4);obtain⟨Ae,le,ce,rfl⟩:=Jd5 underlying68 (show DataW.trod enc prog W base spare held m 68 [c5]=some x5 from g5);obtain⟨T,e6,e6',_⟩:=DataW.trod_string underlying9 (show DataW.trod enc prog W base spare held m 9 [c6]=some x6 from g6);have g2':DataW.trod enc prog W base spare held m 47 [.slice An ln cn]=some x2:=g2;have g3':DataW.trod enc prog W base spare held m 22 [.slice Ai li ci]=some x3:=g3;have g5':DataW.trod enc prog W base spare held m 68 [.slice Ae le ce]=some x5:=g5;have s2:=sz 2 _ _ rfl rfl;have s3:=sz 3 _ _ rfl rfl;have s5:=sz 5 _ _ rfl rfl;have s6:=sz 6 _ _ rfl rfl;obtain⟨N,rfl,hN⟩:=Jrv g2' s2;obtain⟨E,rfl,hE,_⟩:=Jrp g5' s5;obtain⟨n1,n2,n3⟩:=Ja9 underlying47 g2' s2;obtain⟨i1,i2,i3⟩:=Ja9 underlying22 g3' s3;obtain⟨p1,p2,p3⟩:=Ja9 underlying68 g5' s5;rw [bytesStr] at n1;rw [bytesNode] at i1;rw [bytesExt] at p1;have hT:T.size≤140737488355328:=Jds (by rw [e6']) s6;have hKb:=int_bounds wK;have hSb:=int_bounds wS;obtain⟨I,hIl,rs,hcell,hit⟩:∃I:List Nd,I.length=li∧∃rs:Nat→Raw,(∀(i:Nat) (x:Nd),I[i]?=some x→∃b off,Ai=some ⟨b,off,none⟩∧b<W.heap.size∧∀j v,(rawCells x (rs i))[j]?=some v→W.cell? ⟨b,off+i*7+j,none⟩=some v)∧∀(i:Nat) (x:Nd),I[i]?=some x→NdAt W W.heap.size x (rs i):=by
   rcases Ai with _ |a
   ·obtain⟨rfl,_⟩:=i3 rfl
    exact⟨[],rfl,fun _=>raw0,fun i x hx=>by simp at hx,fun i x hx=>by simp at hx⟩
   ·obtain⟨k,hk,hel⟩:=Jc6 underlying22 g3' s3
    have each:∀i,i<li→∃y:Nd×Raw,NdAt W W.heap.size y.1 y.2∧∀j v,(rawCells y.1 y.2)[j]?=some v→W.cell? ((a.add (i*7)).add j)=some v:=fun i hlt=>by
     obtain⟨cs,d,hcs,ht,hsd⟩:=hel i hlt;rw [cellsNode] at hcs;obtain⟨y,ry,rfl,hy⟩:=ih k (by omega) cs d ht hsd;obtain⟨_,_,hat⟩:=World.cells?_some hcs;exact⟨(y,ry),hy,fun j v hj=>(hat j (by have:=(Array.getElem?_eq_some_iff.1 hj).1;exact this)).trans (by rw [Array.getElem?_toList];exact hj)⟩
    obtain⟨f,hfl⟩:=Deep.choose_lt each;have at_:∀(i:Nat) (x:Nd),((List.range li).map fun i=>(f i).1)[i]?=some x→i<li∧x=(f i).1:=fun i x hx=>by
     have hlt:i<li:=by
      have:=(List.getElem?_eq_some_iff.1 hx).1;simpa using this
     rw [List.getElem?_map,List.getElem?_range hlt] at hx;exact⟨hlt,by simpa using hx.symm⟩
    refine⟨(List.range li).map fun i=>(f i).1,by simp,fun i=>(f i).2,fun i x hx=>?_,fun i x hx=>?_⟩
    ·obtain⟨hlt,rfl⟩:=at_ i x hx
     obtain⟨b,off,spot⟩:=a;have h0:=(hfl 0 (by omega)).2 0 _ rfl;have hspot:spot=none:=by simpa [Addr.add] using World.cell?_spot h0
     subst hspot;obtain⟨_,hc⟩:=hfl i hlt;simp only [add_plain] at hc;exact⟨b,off,rfl,World.block_lt_of_cell? W _ (hc 0 _ rfl),hc⟩
    ·obtain⟨hlt,rfl⟩:=at_ i x hx
     exact (hfl i hlt).1
  subst hIl;refine⟨.mk K O N I S E T,⟨An,cn,Ai,ci,Ae,ce⟩,by simp_all [rawCells,Nd.K,Nd.O,Nd.N,Nd.I,Nd.S,Nd.E,Nd.T],.mk rs ⟨hKb.1,hKb.2,hSb.1,hSb.2,hT,n1,i1,p1,n2,i2,p2,n3,i3,p3⟩ hN hE hcell hit⟩
end
end Go.Proofs.YtkjpgheealfedaaGreatDoor.tre
