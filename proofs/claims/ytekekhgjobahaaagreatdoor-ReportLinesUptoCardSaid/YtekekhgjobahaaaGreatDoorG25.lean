import Derived.Test.YtekekhgjobahaaaGreatDoorG24
set_option maxHeartbeats 3200000
set_option maxRecDepth 100000
open Go.Lib (hid)
open Go.Proofs.Tryz
namespace Go.Proofs.YtekekhgjobahaaaGreatDoor.tre
open Go.RowKit ext name

structure Ent where
 x:Nd
 ids:List Nat
end Go.Proofs.YtekekhgjobahaaaGreatDoor.tre

namespace Go.Proofs.YtekekhgjobahaaaGreatDoor.tre
open Go.RowKit words ext name

abbrev Sb:TypeId→Prop:=fun t=>t=198∨t=238
def IntIn (w:World) (P:Nat→Prop) (A:Option Addr) (ids:List Nat):Prop:=
 ∀i (id:Nat),ids[i]?=some id→∃b off,A=some ⟨b,off,none⟩∧P b∧w.cell? ⟨b,off+i,none⟩=some (.int .i64 (id:Int))
theorem IntIn.keep {w w':World} {P P':Nat→Prop} {A:Option Addr} {ids:List Nat} (h:IntIn w P A ids) (hk:∀b,P b→w'.heap[b]?=w.heap[b]?∧P' b):IntIn w' P' A ids:=fun i id hi=>by
 obtain⟨b,off,h1,h2,h3⟩:=h i id hi;exact⟨b,off,h1,(hk b h2).2,(World.cell?_of_block (a:=⟨b,off+i,none⟩) (hk b h2).1).trans h3⟩
def entCells (x:Nd) (r:Raw) (A:Option Addr) (l c:Nat):List Value:=(rawCells x r).toList++[.slice A l c]
def EntAt (w:World) (P:Nat→Prop) (cs:List Value) (e:Ent) (i:Nat):Prop:=
 ∃r A c,NdIn w P e.x r∧IntIn w P A e.ids∧e.ids.length≤c∧∀j v,(entCells e.x r A e.ids.length c)[j]?=some v→cs[i*8+j]?=some v
def Ents (w:World) (P:Nat→Prop) (cs:List Value) (L:List Ent):Prop:=cs.length=L.length*8∧∀i e,L[i]?=some e→EntAt w P cs e i
theorem Ents.nil (w:World) (P:Nat→Prop):Ents w P [] []:=⟨rfl,fun i e h=>by simp at h⟩
theorem Ents.keep {w w':World} {P P':Nat→Prop} {cs:List Value} {L:List Ent} (h:Ents w P cs L) (hk:∀b,P b→w'.heap[b]?=w.heap[b]?∧P' b):Ents w' P' cs L:=⟨h.1,fun i e he=>by
  obtain⟨r,A,c,h1,h2,h3,h4⟩:=h.2 i e he;exact⟨r,A,c,h1.keep hk,h2.keep hk,h3,h4⟩⟩
theorem Ents.app {w:World} {P:Nat→Prop} {cs ds:List Value} {L M:List Ent} (h:Ents w P cs L) (k:Ents w P ds M):Ents w P (cs++ds) (L++M):=by
 refine⟨by rw [List.length_append,List.length_append,h.1,k.1];omega,fun i e he=>?_⟩;rcases Nat.lt_or_ge i L.length with hi |hi
 ·rw [List.getElem?_append_left hi] at he
  obtain⟨r,A,c,h1,h2,h3,h4⟩:=h.2 i e he;refine⟨r,A,c,h1,h2,h3,fun j v hj=>?_⟩;have h5:=h4 j v hj;rw [List.getElem?_append_left (List.getElem?_eq_some_iff.1 h5).1];exact h5
 ·rw [List.getElem?_append_right hi] at he
  obtain⟨r,A,c,h1,h2,h3,h4⟩:=k.2 _ e he;refine⟨r,A,c,h1,h2,h3,fun j v hj=>?_⟩;have h5:=h4 j v hj;rw [List.getElem?_append_right (by rw [h.1];omega),h.1,show i*8+j - L.length*8=(i - L.length)*8+j by omega];exact h5
theorem Ents.one {w:World} {P:Nat→Prop} {e:Ent} {r:Raw} {A:Option Addr} {c:Nat} (h1:NdIn w P e.x r) (h2:IntIn w P A e.ids) (h3:e.ids.length≤c):Ents w P (entCells e.x r A e.ids.length c) [e]:=
 ⟨rfl,fun i f hf=>by
   have hi:i=0:=by have:=(List.getElem?_eq_some_iff.1 hf).1;simp at this;omega
   subst hi;obtain rfl:e=f:=by simpa using hf
   exact⟨r,A,c,h1,h2,h3,fun j v hj=>by rw [Nat.zero_mul,Nat.zero_add];exact hj⟩⟩



def Tb (w:World) (B g:Nat) (v:Value) (m:Nat) (cs:List Value):Prop:=
 B≤g∧w.heap[g]?=some (.cells #[v] 198 (0,0))∧w.ownsRow B 238 8 v m cs
theorem Tb.frame {w w':World} {B g m:Nat} {v:Value} {cs:List Value} (h:Tb w B g v m cs) (hk:∀k,k<w.heap.size→w'.heap[k]?=w.heap[k]?):Tb w' B g v m cs:=by
 obtain⟨h1,h2,h3⟩:=h;refine⟨h1,(hk g (lt_of_some h2)).trans h2,h3.1,?_⟩;rcases h3.2 with h0 |⟨b,cap,cur,e1,e2,e3,e4⟩
 ·exact .inl h0
 ·exact .inr ⟨b,cap,cur,e1,e2,(hk b (lt_of_some e3)).trans e3,e4⟩
theorem Tb.later {w w':World} {B g m:Nat} {v:Value} {cs:List Value} (h:Tb w B g v m cs) (hb:Below w.heap.size w w'):Tb w' B g v m cs:=h.frame hb.block
theorem Tb.alloc {w:World} {B g m:Nat} {v:Value} {cs:List Value} (h:Tb w B g v m cs) (o:Obj):Tb (w.alloc o) B g v m cs:=h.frame fun k hk=>Below.heap_alloc w o k hk
theorem Tb.int {w:World} {B g m:Nat} {v:Value} {cs:List Value} (h:Tb w B g v m cs) {gi j:Nat} {cur:Array Value} (hi:w.heap[gi]?=some (.cells cur 3 (0,0))) (u:Value):Tb (w.setCell ⟨gi,j,none⟩ u) B g v m cs:=
 ⟨h.1,(Below.heap_setCell w ⟨gi,j,none⟩ u g (Jan h.2.1 hi (by decide))).trans h.2.1,Jad h.2.2 (Ja4 h.2.2 hi (by decide)) u⟩
theorem Tb.put {w w1:World} {B g m:Nat} {v v':Value} {cs news:List Value} (h:Tb w B g v m cs) (hown:w1.ownsRow B 238 8 v' (m+1) (cs++news)) (hg:w.grownBy w1 v.ownBlock):
  Tb (w1.setCell ⟨g,0,none⟩ v') B g v' (m+1) (cs++news)∧words.Kept Sb B w (w1.setCell ⟨g,0,none⟩ v'):=by
 obtain⟨h1,h2,h3⟩:=h;have hb1:w1.heap[g]?=some (.cells #[v] 198 (0,0)):=(hg.block g (lt_of_some h2) (fun e=>Ja4 h3 h2 (by decide) e.symm)).trans h2;refine⟨⟨h1,Ja6 hb1 v',Jad hown (Ja4 hown hb1 (by decide)) v'⟩,?_⟩;exact ((words.Kept.refl Sb B w).grown hg h3 (Nat.le_refl _) (.inr rfl)).setCell h1 ⟨_,_,_,hb1,.inl rfl⟩ v'


def Brn (w:World) (B g:Nat) (L:List Ent):Prop:=
 g<B∧∃A c cs,w.heap[g]?=some (.cells #[.slice A L.length c] 198 (0,0))∧(∀j v,cs[j]?=some v→∃b off,A=some ⟨b,off,none⟩∧b<B∧w.cell? ⟨b,off+j,none⟩=some v)∧Ents w (fun b=>b<B) cs L
theorem Brn.keep {w w':World} {B g:Nat} {L:List Ent} (h:Brn w B g L) (hb:Below B w w'):Brn w' B g L:=by
 obtain⟨h1,A,c,cs,h2,h3,h4⟩:=h;refine⟨h1,A,c,cs,(hb.block g h1).trans h2,fun j v hj=>?_,h4.keep fun b hlt=>⟨hb.block b hlt,hlt⟩⟩;obtain⟨b,off,e1,e2,e3⟩:=h3 j v hj;exact⟨b,off,e1,e2,(hb.cell (p:=⟨b,off+j,none⟩) e2).trans e3⟩
theorem Brn.more {w:World} {B B' g:Nat} {L:List Ent} (h:Brn w B g L) (hB:B≤B'):Brn w B' g L:=by
 obtain⟨h1,A,c,cs,h2,h3,h4⟩:=h;refine⟨Nat.lt_of_lt_of_le h1 hB,A,c,cs,h2,fun j v hj=>?_,h4.keep fun b hlt=>⟨rfl,Nat.lt_of_lt_of_le hlt hB⟩⟩;obtain⟨b,off,e1,e2,e3⟩:=h3 j v hj;exact⟨b,off,e1,Nat.lt_of_lt_of_le e2 hB,e3⟩
theorem Brn.later {w w':World} {g:Nat} {L:List Ent} (h:Brn w w.heap.size g L) (hb:Below w.heap.size w w'):Brn w' w'.heap.size g L:=(h.keep hb).more hb.size

def zeroEnt:Value:= .agg #[.int .i64 0,.bool false,.slice none 0 0,.slice none 0 0,.int .i64 0,.slice none 0 0,.string ⟨#[]⟩,.slice none 0 0]
def eCells (x:Nd) (r:Raw) (A:Option Addr) (l c:Nat):Array Value:=
 #[.int .i64 x.K,.bool x.O,.slice r.An x.N.length r.cn,.slice r.Ai x.I.length r.ci,.int .i64 x.S,.slice r.Ae x.E.length r.ce,.string x.T,.slice A l c]
theorem over8 {w:World} {g:Nat} {T:TypeId} {c0 c1 c2 c3 c4 c5 c6 c7 u0 u1 u2 u3 u4 u5 u6 u7:Value} (h:w.heap[g]?=some (.cells #[c0,c1,c2,c3,c4,c5,c6,c7] T (0,0))):
  (w.setCells g 0 [u0,u1,u2,u3,u4,u5,u6,u7]).heap[g]?=some (.cells #[u0,u1,u2,u3,u4,u5,u6,u7] T (0,0)):=by
 have h0:=heap_setCell_same w g 0 _ _ u0 h;have h1:=heap_setCell_same _ g 1 _ _ u1 h0;have h2:=heap_setCell_same _ g 2 _ _ u2 h1;have h3:=heap_setCell_same _ g 3 _ _ u3 h2;have h4:=heap_setCell_same _ g 4 _ _ u4 h3;have h5:=heap_setCell_same _ g 5 _ _ u5 h4;have h6:=heap_setCell_same _ g 6 _ _ u6 h5;have h7:=heap_setCell_same _ g 7 _ _ u7 h6;have he:w.setCells g 0 [u0,u1,u2,u3,u4,u5,u6,u7]=(((((((w.setCell ⟨g,0,none⟩ u0).setCell ⟨g,1,none⟩ u1).setCell ⟨g,2,none⟩ u2).setCell ⟨g,3,none⟩ u3).setCell ⟨g,4,none⟩ u4).setCell ⟨g,5,none⟩ u5).setCell ⟨g,6,none⟩ u6).setCell ⟨g,7,none⟩ u7:=by
  simp only [World.setCells,Nat.reduceAdd,Nat.zero_add]
 rw [he,h7];simp
structure EntIn (w:World) (B:Nat) (e:Ent) (r:Raw) (A:Option Addr) (c:Nat):Prop where
 nd:NdAt w B e.x r
 ids:IntIn w (fun b=>b<B) A e.ids
 cap:e.ids.length≤c
theorem EntIn.later {w w':World} {e:Ent} {r:Raw} {A:Option Addr} {c:Nat} (h:EntIn w w.heap.size e r A c) (hb:Below w.heap.size w w'):EntIn w' w'.heap.size e r A c:=
 ⟨h.nd.later hb,h.ids.keep fun b hlt=>⟨hb.block b hlt,Nat.lt_of_lt_of_le hlt hb.size⟩,h.cap⟩
theorem Brn.at_ {w:World} {B g:Nat} {L:List Ent} (h:Brn w B g L) {k:Nat} {e:Ent} (he:L[k]?=some e):
  ∃A c b off r Ai ci,w.cell? ⟨g,0,none⟩=some (.slice A L.length c)∧A=some ⟨b,off,none⟩∧b<B∧EntIn w B e r Ai ci∧
   ∀j v,(eCells e.x r Ai e.ids.length ci)[j]?=some v→w.cell? ⟨b,off+k*8+j,none⟩=some v:=by
 obtain⟨_,A,c,cs,h2,h3,h4⟩:=h;obtain⟨r,Ai,ci,n1,n2,n3,n4⟩:=h4.2 k e he;obtain⟨b,off,e1,e2,_⟩:=h3 (k*8+0) _ (n4 0 _ rfl);refine⟨A,c,b,off,r,Ai,ci,Jaa h2 0,e1,e2,⟨n1.at_ fun b hb=>hb,n2,n3⟩,fun j v hj=>?_⟩;obtain⟨b',off',e1',_,e3'⟩:=h3 (k*8+j) v (n4 j v (by rw [←Array.getElem?_toList] at hj;exact hj));rw [e1] at e1';injection e1' with e1';injection e1' with x1 x2;subst x1 x2;rw [Nat.add_assoc];exact e3'
def AtYes (e:Ent) (w:World) (en:Ending) (w':World):Prop:=
 ∃r A c,en= .returned (.agg #[.int .i64 e.x.K,.bool e.x.O,.slice r.An e.x.N.length r.cn,.slice r.Ai e.x.I.length r.ci,.int .i64 e.x.S,.slice r.Ae e.x.E.length r.ce,.string e.x.T,.slice A e.ids.length c])∧EntIn w' w'.heap.size e r A c∧Below w.heap.size w w'
theorem Jge (g k:Nat) (L:List Ent) (e:Ent) (w:World) (h:Brn w w.heap.size g L) (he:L[k]?=some e):
  Calls prog 300 #[.pointer (some ⟨g,0,none⟩),.int .i64 (k:Int)] w (AtYes e w):=by
 have hlt:=(List.getElem?_eq_some_iff.1 he).1;obtain⟨W1,hW1⟩:=words.nm (w.alloc (.cells #[.int .i64 0,.bool false,.slice none 0 0,.slice none 0 0,.int .i64 0,.slice none 0 0,.string ⟨#[]⟩,.slice none 0 0] 238));have hb1:=words.b1 hW1;have hx1:W1.heap[w.heap.size]?=some (.cells #[.int .i64 0,.bool false,.slice none 0 0,.slice none 0 0,.int .i64 0,.slice none 0 0,.string ⟨#[]⟩,.slice none 0 0] 238 (0,0)):=by rw [hW1];exact heap_alloc_new w _
 obtain⟨A,c,b,off,r,Ai,ci,cg,rfl,hbb,hen,hc⟩:=h.at_ he;have cg:=Jau cg hb1;have hc:∀j v,(eCells e.x r Ai e.ids.length ci)[j]?=some v→W1.cell? ⟨b,off+k*8+j,none⟩=some v:=fun j v hj=>(hb1.cell (p:=⟨b,off+k*8+j,none⟩) hbb).trans (hc j v hj);have c0:W1.cell? ⟨b,off+k*8,none⟩=some (.int .i64 e.x.K):=hc 0 _ rfl;have c1:W1.cell? ⟨b,off+k*8+1,none⟩=some (.bool e.x.O):=hc 1 _ rfl;have c2:W1.cell? ⟨b,off+k*8+2,none⟩=some (.slice r.An e.x.N.length r.cn):=hc 2 _ rfl;have c3:W1.cell? ⟨b,off+k*8+3,none⟩=some (.slice r.Ai e.x.I.length r.ci):=hc 3 _ rfl;have c4:W1.cell? ⟨b,off+k*8+4,none⟩=some (.int .i64 e.x.S):=hc 4 _ rfl;have c5:W1.cell? ⟨b,off+k*8+5,none⟩=some (.slice r.Ae e.x.E.length r.ce):=hc 5 _ rfl;have c6:W1.cell? ⟨b,off+k*8+6,none⟩=some (.string e.x.T):=hc 6 _ rfl;have c7:W1.cell? ⟨b,off+k*8+7,none⟩=some (.slice Ai e.ids.length ci):=hc 7 _ rfl;have i0:(0:Int)≤(k:Int):=by omega
 have i1:(k:Int)<(L.length:Int):=by omega
 have i2:¬(L.length:Int)≤(k:Int):=by omega
 have i3:¬(k:Int)<0:=by omega
 have i4:decide ((k:Int)<0)=false:=by simp
 have i5:decide ((L.length:Int)≤(k:Int))=false:=by simp;omega
 have z0:=Jab hx1 0;have z1:=Jab hx1 1;have z2:=Jab hx1 2;have z3:=Jab hx1 3;have z4:=Jab hx1 4;have z5:=Jab hx1 5;have z6:=Jab hx1 6;have z7:=Jab hx1 7;have d0:W1.cell? ⟨w.heap.size,0,none⟩=some (.int .i64 0):=Jaa hx1 0;have d1:W1.cell? ⟨w.heap.size,1,none⟩=some (.bool false):=Jaa hx1 1;have d2:W1.cell? ⟨w.heap.size,2,none⟩=some (.slice none 0 0):=Jaa hx1 2;have d3:W1.cell? ⟨w.heap.size,3,none⟩=some (.slice none 0 0):=Jaa hx1 3;have d4:W1.cell? ⟨w.heap.size,4,none⟩=some (.int .i64 0):=Jaa hx1 4;have d5:W1.cell? ⟨w.heap.size,5,none⟩=some (.slice none 0 0):=Jaa hx1 5;have d6:W1.cell? ⟨w.heap.size,6,none⟩=some (.string ⟨#[]⟩):=Jaa hx1 6;have d7:W1.cell? ⟨w.heap.size,7,none⟩=some (.slice none 0 0):=Jaa hx1 7;obtain⟨Wd,hWd⟩:=words.nm (W1.setCells w.heap.size 0 (eCells e.x r Ai e.ids.length ci).toList);have hob:Wd.heap[w.heap.size]?=some (.cells (eCells e.x r Ai e.ids.length ci) 238 (0,0)):=by rw [hWd];exact over8 hx1
 have hs:=size_setCells w.heap.size (eCells e.x r Ai e.ids.length ci).toList 0 W1;have hBd:=below_setCells (w:=w) (B:=w.heap.size) (g:=w.heap.size) (Nat.le_refl _) (eCells e.x r Ai e.ids.length ci).toList 0 W1 hb1;rw [←hWd] at hs hBd;obtain⟨p0,p1,p2,p3,p4,p5,p6,p7⟩:Wd.cell? ⟨w.heap.size,0,none⟩=some (.int .i64 e.x.K)∧Wd.cell? ⟨w.heap.size,1,none⟩=some (.bool e.x.O)∧Wd.cell? ⟨w.heap.size,2,none⟩=some (.slice r.An e.x.N.length r.cn)∧Wd.cell? ⟨w.heap.size,3,none⟩=some (.slice r.Ai e.x.I.length r.ci)∧Wd.cell? ⟨w.heap.size,4,none⟩=some (.int .i64 e.x.S)∧Wd.cell? ⟨w.heap.size,5,none⟩=some (.slice r.Ae e.x.E.length r.ce)∧Wd.cell? ⟨w.heap.size,6,none⟩=some (.string e.x.T)∧Wd.cell? ⟨w.heap.size,7,none⟩=some (.slice Ai e.ids.length ci):=
  ⟨Jaa hob 0,Jaa hob 1,Jaa hob 2,Jaa hob 3,Jaa hob 4,Jaa hob 5,Jaa hob 6,Jaa hob 7⟩
 have hWd':(((((((W1.setCell ⟨w.heap.size,0,none⟩ (.int .i64 e.x.K)).setCell ⟨w.heap.size,1,none⟩ (.bool e.x.O)).setCell ⟨w.heap.size,2,none⟩ (.slice r.An e.x.N.length r.cn)).setCell ⟨w.heap.size,3,none⟩ (.slice r.Ai e.x.I.length r.ci)).setCell ⟨w.heap.size,4,none⟩ (.int .i64 e.x.S)).setCell ⟨w.heap.size,5,none⟩ (.slice r.Ae e.x.E.length r.ce)).setCell ⟨w.heap.size,6,none⟩ (.string e.x.T)).setCell ⟨w.heap.size,7,none⟩ (.slice Ai e.ids.length ci)=Wd:=by rw [hWd];rfl
 have HEn:=hid (hen.later hBd);have HBd:=hid hBd;have HWd:=hid hWd';have HW1:=hid hW1;clear h he hW1 hb1 hx1 hen hc hWd hob hs hBd hWd';go_enter func300,ntmps300
 go_upto_region 1 with fail
 rw [←HW1.out];go_wp2_with fail
 rw [HWd.out];exact bodyPost_ret (v:= .agg #[.int .i64 e.x.K,.bool e.x.O,.slice r.An e.x.N.length r.cn,.slice r.Ai e.x.I.length r.ci,.int .i64 e.x.S,.slice r.Ae e.x.E.length r.ce,.string e.x.T,.slice Ai e.ids.length ci]) (by simp [results,results300,go_sem,p0,p1,p2,p3,p4,p5,p6,p7]) rfl ⟨r,Ai,ci,rfl,HEn.out,HBd.out⟩
theorem Jkm (g:Nat) (i:Int) (L:List Ent) (w:World) (h:Brn w w.heap.size g L) (hi:i<0∨(L.length:Int)≤i):
  Calls prog 300 #[.pointer (some ⟨g,0,none⟩),.int .i64 i] w fun e w'=>e= .returned zeroEnt∧Below w.heap.size w w':=by
 obtain⟨W1,hW1⟩:=words.nm (w.alloc (.cells #[.int .i64 0,.bool false,.slice none 0 0,.slice none 0 0,.int .i64 0,.slice none 0 0,.string ⟨#[]⟩,.slice none 0 0] 238));have hb1:=words.b1 hW1;have hx1:W1.heap[w.heap.size]?=some (.cells #[.int .i64 0,.bool false,.slice none 0 0,.slice none 0 0,.int .i64 0,.slice none 0 0,.string ⟨#[]⟩,.slice none 0 0] 238 (0,0)):=by rw [hW1];exact heap_alloc_new w _
 obtain⟨_,A,c,cs,h2,_,_⟩:=h;have cg:W1.cell? ⟨g,0,none⟩=some (.slice A L.length c):=Jau (Jaa h2 0) hb1;have z0:=Jab hx1 0;have z1:=Jab hx1 1;have z2:=Jab hx1 2;have z3:=Jab hx1 3;have z4:=Jab hx1 4;have z5:=Jab hx1 5;have z6:=Jab hx1 6;have z7:=Jab hx1 7;have d0:W1.cell? ⟨w.heap.size,0,none⟩=some (.int .i64 0):=Jaa hx1 0;have d1:W1.cell? ⟨w.heap.size,1,none⟩=some (.bool false):=Jaa hx1 1;have d2:W1.cell? ⟨w.heap.size,2,none⟩=some (.slice none 0 0):=Jaa hx1 2;have d3:W1.cell? ⟨w.heap.size,3,none⟩=some (.slice none 0 0):=Jaa hx1 3;have d4:W1.cell? ⟨w.heap.size,4,none⟩=some (.int .i64 0):=Jaa hx1 4;have d5:W1.cell? ⟨w.heap.size,5,none⟩=some (.slice none 0 0):=Jaa hx1 5;have d6:W1.cell? ⟨w.heap.size,6,none⟩=some (.string ⟨#[]⟩):=Jaa hx1 6;have d7:W1.cell? ⟨w.heap.size,7,none⟩=some (.slice none 0 0):=Jaa hx1 7;obtain⟨Wd,hWd⟩:=words.nm (W1.setCells w.heap.size 0 [.int .i64 0,.bool false,.slice none 0 0,.slice none 0 0,.int .i64 0,.slice none 0 0,.string ⟨#[]⟩,.slice none 0 0]);have hob:Wd.heap[w.heap.size]?=some (.cells #[.int .i64 0,.bool false,.slice none 0 0,.slice none 0 0,.int .i64 0,.slice none 0 0,.string ⟨#[]⟩,.slice none 0 0] 238 (0,0)):=by rw [hWd];exact over8 hx1
 have hBd:=below_setCells (w:=w) (B:=w.heap.size) (g:=w.heap.size) (Nat.le_refl _) [.int .i64 0,.bool false,.slice none 0 0,.slice none 0 0,.int .i64 0,.slice none 0 0,.string ⟨#[]⟩,.slice none 0 0] 0 W1 hb1;rw [←hWd] at hBd;obtain⟨p0,p1,p2,p3,p4,p5,p6,p7⟩:Wd.cell? ⟨w.heap.size,0,none⟩=some (.int .i64 0)∧Wd.cell? ⟨w.heap.size,1,none⟩=some (.bool false)∧Wd.cell? ⟨w.heap.size,2,none⟩=some (.slice none 0 0)∧Wd.cell? ⟨w.heap.size,3,none⟩=some (.slice none 0 0)∧Wd.cell? ⟨w.heap.size,4,none⟩=some (.int .i64 0)∧Wd.cell? ⟨w.heap.size,5,none⟩=some (.slice none 0 0)∧Wd.cell? ⟨w.heap.size,6,none⟩=some (.string ⟨#[]⟩)∧Wd.cell? ⟨w.heap.size,7,none⟩=some (.slice none 0 0):=
  ⟨Jaa hob 0,Jaa hob 1,Jaa hob 2,Jaa hob 3,Jaa hob 4,Jaa hob 5,Jaa hob 6,Jaa hob 7⟩
 have hWd':(((((((W1.setCell ⟨w.heap.size,0,none⟩ (.int .i64 0)).setCell ⟨w.heap.size,1,none⟩ (.bool false)).setCell ⟨w.heap.size,2,none⟩ (.slice none 0 0)).setCell ⟨w.heap.size,3,none⟩ (.slice none 0 0)).setCell ⟨w.heap.size,4,none⟩ (.int .i64 0)).setCell ⟨w.heap.size,5,none⟩ (.slice none 0 0)).setCell ⟨w.heap.size,6,none⟩ (.string ⟨#[]⟩)).setCell ⟨w.heap.size,7,none⟩ (.slice none 0 0)=Wd:=by rw [hWd];rfl
 have HBd:=hid hBd;have HWd:=hid hWd';have HW1:=hid hW1;clear hW1 hb1 hx1 h2 hWd hob hBd hWd';rcases hi with hi |hi
 ·have i4:decide (i<0)=true:=by simpa using hi
  go_enter func300,ntmps300
  go_upto_region 1 with fail
  rw [←HW1.out];go_wp2_with fail
  rw [HWd.out];exact bodyPost_ret (v:=zeroEnt) (by simp [results,results300,go_sem,zeroEnt,p0,p1,p2,p3,p4,p5,p6,p7]) rfl ⟨rfl,HBd.out⟩
 ·have i4:decide (i<0)=false:=by simp;omega
  have i5:decide ((L.length:Int)≤i)=true:=by simpa using hi
  go_enter func300,ntmps300
  go_upto_region 1 with fail
  rw [←HW1.out];go_wp2_with fail
  rw [HWd.out];exact bodyPost_ret (v:=zeroEnt) (by simp [results,results300,go_sem,zeroEnt,p0,p1,p2,p3,p4,p5,p6,p7]) rfl ⟨rfl,HBd.out⟩

end Go.Proofs.YtekekhgjobahaaaGreatDoor.tre
