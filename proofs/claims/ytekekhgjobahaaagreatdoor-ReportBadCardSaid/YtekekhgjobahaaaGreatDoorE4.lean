import Derived.Test.YtekekhgjobahaaaGreatDoorE2
set_option maxHeartbeats 12800000
set_option maxRecDepth 100000
open Go.Lib (hid)
open Go.Proofs.Tryz
namespace Go.Proofs.YtekekhgjobahaaaGreatDoor.ima
open Go.RowKit words ext name tre

def Noded (fu B g h:Nat) (l:List UInt8) (c:Nat) (f:Bool) (w:World) (e:Ending) (w':World):Prop:=
 ∃(n:Nd) (r:Raw) (l':List UInt8) (c':Nat) (f':Bool),e= .returned (ndV n r)∧NdIn w' (Qz w' w.heap.size) n r∧Rr w' B g h l' (c':Int) f'∧words.Kept Rz B w w'∧l'.length≤l.length∧c'≤4097∧
  (f'=false→c'≤4096∧c<c'∧f=false∧nodeP fu c l=some (n,l',c'))∧(f=false→f'=true→nodeP fu c l=none)
def dN (K:Int) (O:Bool) (N:List ByteArray) (I:List Nd):Nd:= .mk K O N I 0 [] ⟨#[]⟩
def Dired (W:World) (fu B g h gn:Nat) (K:Int) (l:List UInt8) (c:Nat) (f:Bool) (w':World):Prop:=
 ∃(O:Bool) (N:List ByteArray) (I:List Nd) (rs:Nat→Raw) (An Ai:Option Addr) (cn ci:Nat) (l':List UInt8) (c':Nat) (f':Bool),N.length<4294967296∧I.length<4294967296∧l'.length≤l.length∧c'≤4097∧
  Dm W w' B g h gn (dN K O N I) ⟨An,cn,Ai,ci,none,0⟩ (.slice An N.length cn) (.slice Ai I.length ci) N I I rs l' (c':Int) f'∧
  (f'=false→c'≤4096∧f=false∧dirP (nodeP fu) c l=some (O,N,I,l',c'))∧(f=false→f'=true→dirP (nodeP fu) c l=none)
theorem Truthed.one {B g h:Nat} {l:List UInt8} {c:Int} {f:Bool} {w:World} {e:Ending} {w':World} (ht:Truthed B g h l c f w e w'):
  ∃(v:Nat) (l':List UInt8) (f':Bool),e= .returned (.bool (decide (v=1)))∧Rr w' B g h l' c f'∧words.Kept Rz B w w'∧l'.length≤l.length∧
   (f'=false→f=false∧takeP 1 l=some (v,l')∧¬1<v)∧(f=false→f'=true→takeP 1 l=none∨∃v' l'',takeP 1 l=some (v',l'')∧1<v'):=by
 obtain⟨h1 |h1,hkp⟩:=ht
 ·obtain⟨v,l',hp,he,hr⟩:=h1
  have hl:=Jgh hp (by decide);refine⟨v,l',_,he,hr,hkp,by omega,fun hf=>?_,fun h1 h2=>?_⟩
  ·rw [Bool.or_eq_false_iff] at hf
   exact⟨hf.1,hp,of_decide_eq_false hf.2⟩
  ·rw [h1,Bool.false_or] at h2
   exact .inr ⟨v,l',hp,of_decide_eq_true h2⟩
 ·obtain⟨hp,he,hr⟩:=h1
  refine⟨0,l,true,he,hr,hkp,by omega,fun h1=>?_,fun _ _=> .inl hp⟩;cases h1
def itJ (N:List ByteArray) (I:List Nd) (o:Option (List ByteArray×List Nd×List UInt8×Nat)):Option (List ByteArray×List Nd×List UInt8×Nat):=o.map fun p=>(N++p.1,I++p.2.1,p.2.2)
theorem Jv3 {P:Nat→List UInt8→Option (Nd×List UInt8×Nat)} {k c:Nat} {l:List UInt8} (h1:textP 1 l=none):itP P (k+1) c l=none:=by rw [itP,h1]
theorem Jwc {P:Nat→List UInt8→Option (Nd×List UInt8×Nat)} {k c:Nat} {l l1 s:List UInt8} (h1:textP 1 l=some (s,l1)) (h2:P c l1=none):itP P (k+1) c l=none:=by
 rw [itP,h1];show (match P c l1 with |none=>none |some (x,l2,c2)=>_)=_;rw [h2]
theorem Ju0 {P:Nat→List UInt8→Option (Nd×List UInt8×Nat)} {k c c2:Nat} {l l1 l2:List UInt8} {s:ByteArray} {x:Nd} {N:List ByteArray} {I:List Nd} (h1:textP 1 l=some (s.data.toList,l1)) (h2:P c l1=some (x,l2,c2)):
  itJ N I (itP P (k+1) c l)=itJ (N++[s]) (I++[x]) (itP P k c2 l2):=by
 rw [itP,h1];show itJ N I (match P c l1 with |none=>none |some (x,l2,c2)=>_)=_;rw [h2];show itJ N I (match itP P k c2 l2 with |none=>none |some (N,I,l3,c3)=>some (mkB s.data.toList::N,x::I,l3,c3))=_;rw [show mkB s.data.toList=s from rfl];rcases itP P k c2 l2 with _ |⟨N',I',l3,c3⟩
 ·rfl
 ·simp [itJ]
structure Dl (fu c c3:Nat) (l l2 l3:List UInt8) (f2 f3:Bool) (cnt i:Nat) (N:List ByteArray) (I:List Nd):Prop where
 le:i≤cnt
 ln:N.length=i
 li:I.length=i
 sh:l3.length≤l.length
 c1:c3≤4097
 yes:f3=false→f2=false∧c≤c3∧c3≤4096∧itP (nodeP fu) cnt c l2=itJ N I (itP (nodeP fu) (cnt - i) c3 l3)
 no:f2=false→f3=true→itP (nodeP fu) cnt c l2=none
theorem Dl.more {fu c c3 c5:Nat} {l l2 l3 l4 l5:List UInt8} {f2 f4 f5:Bool} {cnt i:Nat} {N:List ByteArray} {I:List Nd} {x:ByteArray} {y:Nd} (hf:Dl fu c c3 l l2 l3 f2 false cnt i N I) (hi:i<cnt) (q1:l4.length≤l3.length) (q2:l5.length≤l4.length) (q3:c5≤4097)
  (a1:f4=false→textP 1 l3=some (x.data.toList,l4)) (b1:f4=true→textP 1 l3=none)
  (a2:f5=false→c5≤4096∧c3<c5∧f4=false∧nodeP fu c3 l4=some (y,l5,c5)) (b2:f4=false→f5=true→nodeP fu c3 l4=none):Dl fu c c5 l l2 l5 f2 f5 cnt (i+1) (N++[x]) (I++[y]):=by
 obtain⟨y1,y2,y3,y4⟩:=hf.yes rfl;obtain⟨k,hk⟩:∃k,cnt - i=k+1:=⟨cnt - i - 1,by omega⟩
 have hk2:cnt - (i+1)=k:=by omega
 rw [hk] at y4;refine⟨by omega,by simp [hf.ln],by simp [hf.li],by have:=hf.sh;omega,q3,fun h5=>?_,fun _ h5=>?_⟩
 ·obtain⟨z1,z2,h4,t2⟩:=a2 h5
  refine⟨y1,by omega,z1,?_⟩;rw [y4,hk2,Ju0 (a1 h4) t2]
 ·rw [y4]
  rcases f4 with _ |_
  ·rw [Jwc (a1 rfl) (b2 rfl h5)]
   rfl
  ·rw [Jv3 (b1 rfl)]
   rfl
theorem Dm.read {W w w':World} {B g h gn:Nat} {n0:Nd} {q0:Raw} {vn vi:Value} {N:List ByteArray} {I J:List Nd} {rs:Nat→Raw} {l l':List UInt8} {c c':Int} {f f':Bool} (hd:Dm W w B g h gn n0 q0 vn vi N I J rs l c f) (hr:Rr w' B g h l' c' f') (hk:words.Kept Rz B w w'):
  Dm W w' B g h gn n0 q0 vn vi N I J rs l' c' f':=
 ⟨hr,hd.kp.trans hk,hd.new,hk.blk hd.box (by decide),hk.own hd.nrow (by decide),hk.own hd.irow (by decide),hd.sep,hd.small,fun i x hx=>(hd.items i x hx).keep fun _ hq=>⟨(hq.1.kept hk).1,(hq.1.kept hk).2,hq.2⟩⟩

theorem Dm.drew {W w:World} {B g h gn:Nat} {n0:Nd} {q0:Raw} {vn vi:Value} {N:List ByteArray} {I J:List Nd} {rs:Nat→Raw} {l:List UInt8} {c:Int} {f:Bool} (hd:Dm W w B g h gn n0 q0 vn vi N I J rs l c f):Dm W w.drew B g h gn n0 q0 vn vi N I J rs l c f:=
 hd.later (Below.refl _ _).drew
section
variable {W w w1:World} {B g h gn gg cap H:Nat} {n0:Nd} {q0:Raw} {vn vi:Value} {N:List ByteArray} {I J:List Nd} {rs:Nat→Raw} {l:List UInt8} {c:Int} {f:Bool}
theorem Dm.names2 (hd:Dm W w B g h gn n0 q0 vn vi N I J rs l c f) {x:ByteArray} (hx:x.size≤4194304) (hown:w1.ownsRow W.heap.size 9 1 (.slice (some ⟨gg,0,none⟩) (N.length+1) cap) (N.length+1) (N.map Value.string++[.string x]))
  (hg:w.grownBy w1 vn.ownBlock) (hat:vn.ownBlock=some gg∨gg=H) (hH:w.heap.size=H):Dm W w1 B g h gn n0 q0 (.slice (some ⟨gg,0,none⟩) (N.length+1) cap) vi (N++[x]) I J rs l c f:=by
 refine hd.names (by omega) hown hg (hat.imp (fun e=>e.trans (by simp [Value.ownBlock])) fun e=>?_);rw [e,hH];simp [Value.ownBlock]
theorem Dm.entry2 (hd:Dm W w B g h gn n0 q0 vn vi N I J rs l c f) {y:Nd} {r:Raw} (hr:rowCells (I++[y]) rs=rowCells I rs++(rawCells y r).toList) (hown:w1.ownsRow W.heap.size 46 7 (.slice (some ⟨gg,0,none⟩) (I.length+1) cap) (I.length+1) (rowCells I rs++(rawCells y r).toList))
  (hg:w.grownBy w1 vi.ownBlock) (hat:vi.ownBlock=some gg∨gg=H) (hH:w.heap.size=H):Dm W w1 B g h gn n0 q0 vn (.slice (some ⟨gg,0,none⟩) (I.length+1) cap) N (I++[y]) J rs l c f:=by
 refine hd.entry (by rw [hr];exact hown) hg (hat.imp (fun e=>e.trans (by simp [Value.ownBlock])) fun e=>?_);rw [e,hH];simp [Value.ownBlock]
theorem Dm.boxed (hd:Dm W w B g h gn n0 q0 vn vi N I J rs l c f) {b:Nat} {n1:Nd} {q1:Raw} (hb:Box w b n1 q1) (hg:w.grownBy w1 vn.ownBlock):Box w1 b n1 q1:=
 hb.grown hg fun e=>Jap hd.nrow hb (by decide) e.symm
end
def rsPut (rs:Nat→Raw) (k:Nat) (r:Raw):Nat→Raw:=fun i=>if i=k then r else rs i
theorem Jcd:∀{L:List Nd} {rs rs':Nat→Raw},(∀i<L.length,rs i=rs' i)→rowCells L rs=rowCells L rs'
 |[],_,_,_=>rfl
 |x::L,rs,rs',h=>by
  rw [rowCells,rowCells,h 0 (by simp),Jcd (L:=L) (rs:=fun i=>rs (i+1)) (rs':=fun i=>rs' (i+1)) fun i hi=>h (i+1) (by simp;omega)]
theorem Je9:∀(L:List Nd) (x:Nd) (rs:Nat→Raw),rowCells (L++[x]) rs=rowCells L rs++(rawCells x (rs L.length)).toList
 |[],x,rs=>by simp [rowCells]
 |y::L,x,rs=>by
  rw [List.cons_append,rowCells,Je9 L x,rowCells,List.append_assoc];rfl
theorem Jdg (L:List Nd) (x:Nd) (rs:Nat→Raw) (r:Raw):rowCells (L++[x]) (rsPut rs L.length r)=rowCells L (rsPut rs L.length r)++(rawCells x r).toList:=by
 rw [Je9];unfold rsPut;rw [if_pos rfl]
theorem Dm.pend {W w0 w:World} {B g h gn:Nat} {n0:Nd} {q0:Raw} {vn vi:Value} {N:List ByteArray} {I:List Nd} {rs:Nat→Raw} {l:List UInt8} {c:Int} {f:Bool} (hd:Dm W w B g h gn n0 q0 vn vi N I I rs l c f)
  {l0:List UInt8} {c0:Int} {f0:Bool} (h0:Dm W w0 B g h gn n0 q0 vn vi N I I rs l0 c0 f0) {y:Nd} {r:Raw} (hy:NdIn w (Qz w w0.heap.size) y r):Dm W w B g h gn n0 q0 vn vi N I (I++[y]) (rsPut rs I.length r) l c f:=by
 refine⟨hd.rr,hd.kp,hd.new,hd.box,hd.nrow,?_,hd.sep,hd.small,fun i x hx=>?_⟩
 ·rw [Jcd (rs':=rs) fun i hi=>by unfold rsPut;rw [if_neg (by omega)]]
  exact hd.irow
 ·rcases Nat.lt_or_ge i I.length with hi |hi
  ·rw [List.getElem?_append_left hi] at hx
   have:=hd.items i x hx;unfold rsPut;rw [if_neg (by omega)];exact this
  ·have hi2:i=I.length:=by
    have:=(List.getElem?_eq_some_iff.1 hx).1;simp at this;omega
   subst hi2;rw [List.getElem?_append_right (Nat.le_refl _),Nat.sub_self] at hx;have e:y=x:=by simpa using hx
   subst e;unfold rsPut;rw [if_pos rfl];refine hy.keep fun b hb=>⟨rfl,hb.less h0.kp.size,fun e=>?_,fun e=>?_,fun e=>?_⟩
   ·have:=h0.box.lt
    have:=hb.1;omega
   ·have:=(h0.nrow.lt b e).2
    have:=hb.1;omega
   ·have:=(h0.irow.lt b e).2
    have:=hb.1;omega

theorem infoString:(Tryz.prog.info? 9).map (fun i=>(i.zero,i.size,i.bytes))=some (some (.string ⟨#[]⟩),1,16):=by kernel_rfl
theorem infoNode:(Tryz.prog.info? 46).map (fun i=>(i.zero,i.size,i.bytes))=some (some (.agg #[.int .i64 0,.bool false,.slice none 0 0,.slice none 0 0,.int .i64 0,.slice none 0 0,.string ⟨#[]⟩]),7,112):=by kernel_rfl
theorem Jir {w:World} {b:Nat} {y:Nd} {r:Raw} (h:Box w b y r):∀j u,(rawCells y r).toList[j]?=some u→w.cell? ((⟨b,0,none⟩:Addr).add j)=some u:=World.news_of_block h
theorem Jik (y:Nd) (r:Raw):∀u∈(rawCells y r).toList,u.oneCell'=true:=by
 have:=Je8 [y] (fun _=>r);rw [rowCells,rowCells,List.append_nil] at this;exact this
theorem idir (W:World) (fu B g h gn:Nat) (K:Int) (l:List UInt8) (c:Nat) (f:Bool) (w:World)
  (hn:∀(l:List UInt8) (c:Nat) (f:Bool) (w:World),Rr w B g h l (c:Int) f→c≤4096→4097≤fu+c→l.length≤4194304→Calls prog 115 #[.pointer (some ⟨g,0,none⟩)] w (Noded fu B g h l c f w))
  (hs:Dm W w B g h gn (dN K false [] []) raw0 (.slice none 0 0) (.slice none 0 0) [] [] [] (fun _=>raw0) l (c:Int) f) (hc:c≤4097) (hcf:f=false→c≤4096) (hfu:4097≤fu+c) (hll:l.length≤4194304):
  Calls prog 147 #[.pointer (some ⟨g,0,none⟩),.pointer (some ⟨gn,0,none⟩)] w fun e w'=>(∃u,e= .returned u)∧Dired W fu B g h gn K l c f w':=by
 have HT:=hid (itruth B g h l c f w hs.rr);have HS:=hid hs;have HN:=hid hn;have HC:=hid hcf;clear hs hn hcf;go_enter func147,ntmps147
 go_wp2_with fail
 refine HT.out.mono ?_;rintro e w1 ht;obtain⟨o,l1,f1,rfl,hr1,hk1,q1,a1,b1⟩:=ht.one;have hs1:=HS.out.read hr1 hk1;have c1:w1.cell? ⟨gn,1,none⟩=some (.bool false):=hs1.box.cells.2.1;have f4:w1.frozen? ⟨gn,1,none⟩=false:=Jab hs1.box 1;have hs2:=hs1.set 1 (.bool (decide (o=1))) (n1:=dN K (decide (o=1)) [] []) (q1:=raw0) rfl;obtain⟨W2,hW2⟩:=words.nm (w1.setCell ⟨gn,1,none⟩ (.bool (decide (o=1))));rw [←hW2] at hs2;obtain⟨O,hO⟩:=words.nm (decide (o=1));rw [←hO] at hW2 hs2;have HT2:=hid (itake 2 B g h l1 c f1 W2 hs2.rr (by decide) (by decide));have HS2:=hid hs2;have HW2:=hid hW2;have HO:=hid hO;have HA1:=hid (And.intro a1 b1);rw [←hO];clear ht hr1 hk1 hs1 hs2 hW2 a1 b1 HT HS hO;go_upto_region 1 with fail
 rw [←HW2.out];go_wp2_with fail
 refine HT2.out.mono ?_;rintro e w3 ht;clear c1 f4 HW2 HT2;obtain⟨cnt,l2,f2,rfl,hcnt,hr3,hk3,q2,a2,b2⟩:=ht.one (by decide);have hs3:=HS2.out.read hr3 hk3;have HS3:=hid hs3;have HA2:=hid (And.intro a2 b2);clear ht hr3 hk3 hs3 a2 b2 HS2;go_upto_region 3 with fail
 go_wp2_with fail
 go_loopw [5] (fun v5 wr=>∃(i:Nat) (N:List ByteArray) (I:List Nd) (rs:Nat→Raw) (An Ai:Option Addr) (cn ci:Nat) (l3:List UInt8) (c3:Nat) (f3:Bool),v5= .int .i64 i∧Hid (Dm W wr B g h gn (dN K O N I) ⟨An,cn,Ai,ci,none,0⟩ (.slice An N.length cn) (.slice Ai I.length ci) N I I rs l3 (c3:Int) f3)∧Hid (Dl fu c c3 l l2 l3 f2 f3 cnt i N I)) (fun v5 _=>cnt - (intOf v5).toNat)
 case atStart=>
  refine⟨0,[],[],_,none,none,0,0,l2,c,f2,rfl,HS3,hid ⟨Nat.zero_le _,rfl,rfl,by omega,hc,fun h2=>⟨h2,Nat.le_refl _,?_,?_⟩,fun h1 h2=>?_⟩⟩
  ·exact HC.out (HA1.out.1 (HA2.out.1 h2).1).1
  ·rw [Nat.sub_zero]
   rcases itP (nodeP fu) cnt c l2 with _ |⟨N',I',l4,c4⟩<;>rfl
  ·rw [h1] at h2
   cases h2
 case round=>
  obtain⟨i,N,I,rs,An,Ai,cn,ci,l3,c3,f3,rfl,HS,HL⟩:=hrel;obtain⟨d0,d1,d2,_,_⟩:=HS.out.rr.cells;have i0':(0:Int)≤(i:Int):=by omega
  have hle:=HL.out.le;have hend:i≥cnt∨f3=true→Dired W fu B g h gn K l c f wr:=by
   intro hor;have hln:=HL.out.ln;have hli:=HL.out.li;refine⟨O,N,I,rs,An,Ai,cn,ci,l3,c3,f3,by omega,by omega,HL.out.sh,HL.out.c1,HS.out,fun h3=>?_,fun h0 h3=>?_⟩
   ·obtain⟨h2,_,h4,hx⟩:=HL.out.yes h3
    obtain⟨h1,t2,_⟩:=HA2.out.1 h2;obtain⟨h0,t1,ho⟩:=HA1.out.1 h1;have hi:cnt - i=0:=by
     rcases hor with hor |hor
     ·omega
     ·rw [h3] at hor
      cases hor
    rw [hi] at hx;refine⟨h4,h0,?_⟩;unfold dirP;rw [t1];show (if 1<o then none else match takeP 2 l1 with |none=>none |some (k,l2)=>_)=_;rw [if_neg ho,t2];show (match itP (nodeP fu) cnt c l2 with |none=>none |some (N,I,l3,c3)=>_)=_;rw [hx,HO.out];simp [itP,itJ]
   ·unfold dirP
    rcases f1 with _ |_
    ·obtain⟨_,t1,ho⟩:=HA1.out.1 rfl
     rw [t1];show (if 1<o then none else match takeP 2 l1 with |none=>none |some (k,l2)=>_)=_;rw [if_neg ho];rcases f2 with _ |_
     ·obtain⟨_,t2,_⟩:=HA2.out.1 rfl
      rw [t2];show (match itP (nodeP fu) cnt c l2 with |none=>none |some (N,I,l3,c3)=>_)=_;rw [HL.out.no rfl h3]
     ·rw [HA2.out.2 rfl rfl]
    ·rcases HA1.out.2 h0 rfl with t1 |⟨v',l'',t1,ho⟩
     ·rw [t1]
     ·rw [t1]
      show (if 1<v' then none else match takeP 2 l'' with |none=>none |some (k,l2)=>_)=_;rw [if_pos ho]
  by_cases hlt:i<cnt
  ·have i1:(i:Int)<(cnt:Int):=by omega
   rcases f3 with _ |_
   ·have HT4:=hid (Jkx 1 B g h l3 c3 false wr HS.out.rr (by decide) (by decide))
    clear hend;go_wp2_with fail
    refine HT4.out.mono ?_;rintro e w4 ht;clear d0 d1 d2 HT4;have hsh:=HL.out.sh;obtain⟨x,l4,f4,rfl,hx,hr4,hk4,q4,a4,b4⟩:=ht.one (by decide) (by omega);have hs4:=HS.out.read hr4 hk4;obtain⟨_,hcc,hc4,_⟩:=HL.out.yes rfl;have HT5:=hid (HN.out l4 c3 f4 w4 hs4.rr hc4 (by omega) (by omega));have HS4:=hid hs4;have HA4:=hid (And.intro (fun h=>(a4 h).2.1) (b4 rfl));clear ht hr4 hk4 hs4 a4 b4 HS;go_wp2_with fail
    refine HT5.out.mono ?_;rintro e w5 ht;obtain⟨y,r,l5,c5,f5,rfl,hy,hr5,hk5,q5,z5,a5,b5⟩:=ht;have hs5:=HS4.out.read hr5 hk5;have HL2:=hid (HL.out.more hlt q4 q5 z5 HA4.out.1 HA4.out.2 a5 b5);obtain⟨rs',hrs⟩:∃rs',rs'=rsPut rs I.length r:=⟨_,rfl⟩
    have hp5:=hs5.pend HS4.out hy;have hrow:=Jdg I y rs r;rw [←hrs] at hp5 hrow;obtain⟨W6,hW6⟩:=words.nm (w5.alloc (.cells (rawCells y r) 46));have hd6:Dm W W6 B g h gn (dN K O N I) ⟨An,cn,Ai,ci,none,0⟩ (.slice An N.length cn) (.slice Ai I.length ci) N I (I++[y]) rs' l5 (c5:Int) f5:=by rw [hW6];exact hp5.alloc _
    have hx6:Box W6 w5.heap.size y r:=by rw [hW6];exact Box.new w5 y r
    unfold rawCells at hW6;have HD:=hid hd6;have HX:=hid hx6;have HR:=hid hrow;have HW6:=hid hW6;have k2:∀(w':World),Box w' gn (dN K O N I) ⟨An,cn,Ai,ci,none,0⟩→w'.cell? ⟨gn,2,none⟩=some (.slice An N.length cn)∧w'.cell? ⟨gn,3,none⟩=some (.slice Ai I.length ci)∧w'.frozen? ⟨gn,2,none⟩=false∧w'.frozen? ⟨gn,3,none⟩=false:=fun _ hb=>⟨hb.cells.2.2.1,hb.cells.2.2.2.1,Jab hb 2,Jab hb 3⟩
    have K2:=hid k2;clear hr5 hk5 hs5 a5 b5 HS4 HT5 HL HA4 hy hrs hp5 hrow hW6 hd6 hx6 k2;obtain⟨n2,n3,n4,n5⟩:=K2.out _ HD.out.box;obtain⟨m0,m1,m2,m3,m4,m5,m6⟩:=HX.out.cells;unfold ndV rawCells;go_upto_region 6 with fail
    rw [←HW6.out];clear n2 n3 n4 n5 m0 m1 m2 m3 m4 m5 m6;obtain⟨n2,n3,n4,n5⟩:=K2.out _ HD.out.box;obtain⟨m0,m1,m2,m3,m4,m5,m6⟩:=HX.out.cells;clear HW6 HA1 HA2 HC HN z5 q4 q5 hsh hcc hc4;obtain⟨i1',hi1,hv0,hv1,hv2⟩:=info_parts infoString;obtain⟨i2',hi2,hu0,hu1,hu2⟩:=info_parts infoNode;have HLN:Hid (N.length=i):=hid (by have:=HL2.out.ln;simp at this;exact this);have HLI:Hid (I.length=i):=hid (by have:=HL2.out.li;simp at this;exact this);have e2:∀g8 cap8,(rawCells (dN K O N I) ⟨An,cn,Ai,ci,none,0⟩).setIfInBounds 2 (.slice (some ⟨g8,0,none⟩) (N.length+1) cap8)=rawCells (dN K O (N++[x]) I) ⟨some ⟨g8,0,none⟩,cap8,Ai,ci,none,0⟩:=fun _ _=>by
     unfold rawCells dN;simp [Nd.K,Nd.O,Nd.N,Nd.I,Nd.S,Nd.E,Nd.T]
    have e3:∀g8 g9 cap8 cap9,(rawCells (dN K O (N++[x]) I) ⟨some ⟨g8,0,none⟩,cap8,Ai,ci,none,0⟩).setIfInBounds 3 (.slice (some ⟨g9,0,none⟩) (I.length+1) cap9)=rawCells (dN K O (N++[x]) (I++[y])) ⟨some ⟨g8,0,none⟩,cap8,some ⟨g9,0,none⟩,cap9,none,0⟩:=fun _ _ _ _=>by
     unfold rawCells dN;simp [Nd.K,Nd.O,Nd.N,Nd.I,Nd.S,Nd.E,Nd.T]
    have HQ:Hid (∀{w':World},Box w' gn (dN K O N I) ⟨An,cn,Ai,ci,none,0⟩→Box w' w5.heap.size y r→(fun w'=>w'.cell? ⟨gn,2,none⟩=some (.slice An N.length cn)∧w'.cell? ⟨gn,3,none⟩=some (.slice Ai I.length ci)∧Box w' w5.heap.size y r) w'):=hid fun h1 h2=>⟨(K2.out _ h1).1,(K2.out _ h1).2.1,h2⟩
    have HRg:Hid (∀{w':World},Box w' w5.heap.size y r→w'.rangeAt w5.heap.size 0 [.int .i64 y.K,.bool y.O,.slice r.An y.N.length r.cn,.slice r.Ai y.I.length r.ci,.int .i64 y.S,.slice r.Ae y.E.length r.ce,.string y.T]):=hid fun h j v hj=>by rw [Nat.zero_add];exact (Jaa h j).trans (by rw [←Array.getElem?_toList];exact hj)
    obtain⟨V,hV⟩:=words.nm (W6.drew);have HDV:=hid HD.out.drew;have HXV:=hid (HX.out.below (Below.refl _ _).drew);rw [←hV] at HDV HXV;have HSV:=hid (HQ.out HDV.out.box HXV.out);clear n2 n3 n4 n5 m0 m1 m2 m3 m4 m5 m6 HD HX;refine held.wpT_start (S:=fun w'=>w'.cell? ⟨gn,2,none⟩=some (.slice An N.length cn)∧w'.cell? ⟨gn,3,none⟩=some (.slice Ai I.length ci)∧Box w' w5.heap.size y r) (T:=fun k=>k==15||k==18||k==21) (by kernel_rfl) ?_;rw [←hV];clear hV;refine stp.tk 0 31 ?_;refine stp.tk 1 32 ?_;refine stp.tk 2 33 ?_;refine stp.tk 3 34 ?_;refine stp.tk 4 35 ?_;refine stp.ld 5 36 HSV.out ?_ (hv:=by intro w' h;obtain⟨h1,h2,h3⟩:=h;clear h3;go_simp;(try with_reducible rfl));refine stp.tk 6 37 ?_;refine stp.tk 9 40 ?_;refine stp.tk 10 41 ?_;refine stp.tk 11 42 ?_;refine stp.ld 12 43 HSV.out ?_ (hv:=by intro w' h;obtain⟨h1,h2,h3⟩:=h;clear h3;go_simp;(try with_reducible rfl));refine stp.ldm 13 44 HSV.out (yieldsIf_load_mid (by kernel_rfl) 46 (.tmp 7) rfl w5.heap.size 0 rfl [.int .i64 y.K,.bool y.O,.slice r.An y.N.length r.cn,.slice r.Ai y.I.length r.ci,.int .i64 y.S,.slice r.Ae y.E.length r.ce,.string y.T] _ (fun w' h=>HRg.out h.2.2) underlying46 rfl (by kernel_rfl)) ?_;refine held.wpT_two (i:=7) (j:=14) (by kernel_rfl) rfl rfl (fun Kc hK=>?_) (fun Kc hK=>?_)
    ·skip
     obtain⟨U1,hU1⟩:=words.nm (V.alloc (.cells #[.string x] 9));have HD1:=hid (HDV.out.alloc (.cells #[.string x] 9));have HX1:=hid (HXV.out.alloc (.cells #[.string x] 9));have HN1:=hid (heap_alloc_new V (.cells #[.string x] 9));rw [←hU1] at HD1 HX1 HN1;go_simp
     rw [←hU1];clear hU1;refine hK.out _ _ (fun _ _=>HQ.out HD1.out.box HX1.out) ?_;clear hK;try simp only [stp.pt]
     refine held.wpT_two (i:=8) (j:=14) (by kernel_rfl) rfl rfl (fun Kc hK=>?_) (fun Kc hK=>?_)
     ·skip
      refine step_append_lies U1 (by rfl) (.tmp 36) (.tmp 38) _ (by rfl) W.heap.size 9 i1' _ 1 16 underlying27 hi1 hv0 hv1 hv2 rfl (by omega) (.slice An N.length cn) N.length (N.map Value.string) (by rfl) HD1.out.nrow ⟨V.heap.size,0,none⟩ 1 1 [.string x] (by rfl) (by rfl) (World.news_of_block (cs:=#[.string x]) (t:=9) (fr:=(0,0)) HN1.out) (by simp [Value.oneCell']) (by omega) (by have:=HLN.out;simp only [maxLen];omega) (by have:=HLN.out;omega) HD1.out.kp.size U1.heap.size rfl ?_;intro g8 cap8 w82 hown8 hgrow8 hat8 hlt8;have HD2:=hid (HD1.out.names2 hx hown8 hgrow8 hat8 rfl);have HX2:=hid (HD1.out.boxed HX1.out hgrow8);clear hown8 hgrow8 hat8 hlt8;refine hK.out _ _ (fun _ _=>HQ.out HD2.out.box HX2.out) ?_;clear hK;try simp only [stp.pt]
      refine held.wpT_one (i:=14) (by kernel_rfl) rfl (fun Kc hK=>?_);obtain⟨U3,hU3⟩:=words.nm (w82.alloc (.cells (rawCells y r) 46));have HD3:=hid (HD2.out.alloc (.cells (rawCells y r) 46));have HX3:=hid (HX2.out.alloc (.cells (rawCells y r) 46));have HB3:=hid (Box.new w82 y r);rw [←hU3] at HD3 HX3 HB3;unfold rawCells at hU3;go_simp
      rw [←hU3];clear hU3;refine hK.out _ _ (fun _ _=>HQ.out HD3.out.box HX3.out) ?_;clear hK;try simp only [stp.pt]
      refine held.wpT_one (i:=15) (by kernel_rfl) rfl (fun Kc hK=>?_);refine step_append_lies U3 (by rfl) (.tmp 43) (.tmp 45) _ (by rfl) W.heap.size 46 i2' _ 7 112 underlying22 hi2 hu0 hu1 hu2 rfl (by omega) (.slice Ai I.length ci) I.length (rowCells I rs') (by rfl) HD3.out.irow ⟨w82.heap.size,0,none⟩ 1 1 (rawCells y r).toList (by rfl) rfl (Jir HB3.out) (Jik y r) (by omega) (by have:=HLI.out;simp only [maxLen];omega) (by have:=HLI.out;omega) HD3.out.kp.size U3.heap.size rfl ?_;intro g9 cap9 w9 hown9 hgrow9 hat9 hlt9;have HD9:=hid (HD3.out.entry2 HR.out hown9 hgrow9 hat9 rfl);clear hown9 hgrow9 hat9 hlt9;refine hK.out _ _ (fun h=>absurd h (by decide)) ?_;clear hK;try simp only [stp.pt]
      refine stp.tk 16 47 ?_;refine stp.tk 17 48 ?_;obtain⟨w10,h10⟩:=words.nm (w9.setCell ⟨gn,2,none⟩ (.slice (some ⟨g8,0,none⟩) (N.length+1) cap8));have hd10:=HD9.out.set 2 _ (e2 g8 cap8);rw [←h10] at hd10;have HD10:=hid hd10;obtain⟨w11,h11⟩:=words.nm (w10.setCell ⟨gn,3,none⟩ (.slice (some ⟨g9,0,none⟩) (I.length+1) cap9));have hd11:=hd10.set 3 _ (e3 g8 g9 cap8 cap9);rw [←h11] at hd11;have HP:=hid hd11;clear hd10 hd11;obtain⟨s2,s3,s4,s5⟩:=K2.out _ HD9.out.box;refine held.wpT_one (i:=18) (by kernel_rfl) rfl (fun Kc hK=>?_);go_simp
      rw [←h10];clear s2 s3 s4 s5 h10 HD9;refine hK.out _ _ (fun h=>absurd h (by decide)) ?_;clear hK;try simp only [stp.pt]
      refine stp.tk 19 49 ?_;refine stp.tk 20 50 ?_;have t3:w10.cell? ⟨gn,3,none⟩=some (.slice Ai I.length ci):=(Box.cells HD10.out.box).2.2.2.1;have t4:=Jab HD10.out.box 3;refine held.wpT_one (i:=21) (by kernel_rfl) rfl (fun Kc hK=>?_);go_simp
      rw [←h11];clear t3 t4 h11 HD10;refine hK.out _ _ (fun h=>absurd h (by decide)) ?_;clear hK;try simp only [stp.pt]
      refine held.wpT_done (by kernel_rfl) ?_ _;go_wp2_with fail
      go_roundw
      case rel=>exact⟨i+1,N++[x],I++[y],rs',some ⟨g8,0,none⟩,some ⟨g9,0,none⟩,cap8,cap9,l5,c5,f5,by go_num,hid (by rw [show (N++[x]).length=N.length+1 by simp,show (I++[y]).length=I.length+1 by simp];exact HP.out),HL2⟩
      case measure=>simp [intOf];omega
     ·skip
      obtain⟨U5,hU5⟩:=words.nm (U1.alloc (.cells (rawCells y r) 46));have HD5:=hid (HD1.out.alloc (.cells (rawCells y r) 46));have HX5:=hid (HX1.out.alloc (.cells (rawCells y r) 46));have HB5:=hid (Box.new U1 y r);rw [←hU5] at HD5 HX5 HB5;have HN5:=hid ((Below.heap_alloc U1 (.cells (rawCells y r) 46) _ (lt_of_some HN1.out)).trans HN1.out);rw [←hU5] at HN5;unfold rawCells at hU5;go_simp
      rw [←hU5];clear hU5;refine hK.out _ _ (fun _ _=>HQ.out HD5.out.box HX5.out) ?_;clear hK;try simp only [stp.pt]
      refine held.wpT_one (i:=8) (by kernel_rfl) rfl (fun Kc hK=>?_);refine step_append_lies U5 (by rfl) (.tmp 36) (.tmp 38) _ (by rfl) W.heap.size 9 i1' _ 1 16 underlying27 hi1 hv0 hv1 hv2 rfl (by omega) (.slice An N.length cn) N.length (N.map Value.string) (by rfl) HD5.out.nrow ⟨V.heap.size,0,none⟩ 1 1 [.string x] (by rfl) (by rfl) (World.news_of_block (cs:=#[.string x]) (t:=9) (fr:=(0,0)) HN5.out) (by simp [Value.oneCell']) (by omega) (by have:=HLN.out;simp only [maxLen];omega) (by have:=HLN.out;omega) HD5.out.kp.size U5.heap.size rfl ?_;intro g8 cap8 w86 hown8 hgrow8 hat8 hlt8;have HD6:=hid (HD5.out.names2 hx hown8 hgrow8 hat8 rfl);have HX6:=hid (HD5.out.boxed HX5.out hgrow8);have HB6:=hid (HD5.out.boxed HB5.out hgrow8);clear hown8 hgrow8 hat8 hlt8;refine hK.out _ _ (fun _ _=>HQ.out HD6.out.box HX6.out) ?_;clear hK;try simp only [stp.pt]
      refine held.wpT_one (i:=15) (by kernel_rfl) rfl (fun Kc hK=>?_);refine step_append_lies w86 (by rfl) (.tmp 43) (.tmp 45) _ (by rfl) W.heap.size 46 i2' _ 7 112 underlying22 hi2 hu0 hu1 hu2 rfl (by omega) (.slice Ai I.length ci) I.length (rowCells I rs') (by rfl) HD6.out.irow ⟨U1.heap.size,0,none⟩ 1 1 (rawCells y r).toList (by rfl) rfl (Jir HB6.out) (Jik y r) (by omega) (by have:=HLI.out;simp only [maxLen];omega) (by have:=HLI.out;omega) HD6.out.kp.size w86.heap.size rfl ?_;intro g9 cap9 w9 hown9 hgrow9 hat9 hlt9;have HD9:=hid (HD6.out.entry2 HR.out hown9 hgrow9 hat9 rfl);clear hown9 hgrow9 hat9 hlt9;refine hK.out _ _ (fun h=>absurd h (by decide)) ?_;clear hK;try simp only [stp.pt]
      refine stp.tk 16 47 ?_;refine stp.tk 17 48 ?_;obtain⟨w10,h10⟩:=words.nm (w9.setCell ⟨gn,2,none⟩ (.slice (some ⟨g8,0,none⟩) (N.length+1) cap8));have hd10:=HD9.out.set 2 _ (e2 g8 cap8);rw [←h10] at hd10;have HD10:=hid hd10;obtain⟨w11,h11⟩:=words.nm (w10.setCell ⟨gn,3,none⟩ (.slice (some ⟨g9,0,none⟩) (I.length+1) cap9));have hd11:=hd10.set 3 _ (e3 g8 g9 cap8 cap9);rw [←h11] at hd11;have HP:=hid hd11;clear hd10 hd11;obtain⟨s2,s3,s4,s5⟩:=K2.out _ HD9.out.box;refine held.wpT_one (i:=18) (by kernel_rfl) rfl (fun Kc hK=>?_);go_simp
      rw [←h10];clear s2 s3 s4 s5 h10 HD9;refine hK.out _ _ (fun h=>absurd h (by decide)) ?_;clear hK;try simp only [stp.pt]
      refine stp.tk 19 49 ?_;refine stp.tk 20 50 ?_;have t3:w10.cell? ⟨gn,3,none⟩=some (.slice Ai I.length ci):=(Box.cells HD10.out.box).2.2.2.1;have t4:=Jab HD10.out.box 3;refine held.wpT_one (i:=21) (by kernel_rfl) rfl (fun Kc hK=>?_);go_simp
      rw [←h11];clear t3 t4 h11 HD10;refine hK.out _ _ (fun h=>absurd h (by decide)) ?_;clear hK;try simp only [stp.pt]
      refine held.wpT_done (by kernel_rfl) ?_ _;go_wp2_with fail
      go_roundw
      case rel=>exact⟨i+1,N++[x],I++[y],rs',some ⟨g8,0,none⟩,some ⟨g9,0,none⟩,cap8,cap9,l5,c5,f5,by go_num,hid (by rw [show (N++[x]).length=N.length+1 by simp,show (I++[y]).length=I.length+1 by simp];exact HP.out),HL2⟩
      case measure=>simp [intOf];omega
    ·skip
     obtain⟨U8,hU8⟩:=words.nm (V.alloc (.cells (rawCells y r) 46));have HD8:=hid (HDV.out.alloc (.cells (rawCells y r) 46));have HX8:=hid (HXV.out.alloc (.cells (rawCells y r) 46));have HB8:=hid (Box.new V y r);rw [←hU8] at HD8 HX8 HB8;unfold rawCells at hU8;go_simp
     rw [←hU8];clear hU8;refine hK.out _ _ (fun _ _=>HQ.out HD8.out.box HX8.out) ?_;clear hK;try simp only [stp.pt]
     refine held.wpT_one (i:=7) (by kernel_rfl) rfl (fun Kc hK=>?_);obtain⟨U9,hU9⟩:=words.nm (U8.alloc (.cells #[.string x] 9));have HD9:=hid (HD8.out.alloc (.cells #[.string x] 9));have HX9:=hid (HX8.out.alloc (.cells #[.string x] 9));have HN9:=hid (heap_alloc_new U8 (.cells #[.string x] 9));rw [←hU9] at HD9 HX9 HN9;have HB9:=hid (HB8.out.alloc (.cells #[.string x] 9));rw [←hU9] at HB9;go_simp
     rw [←hU9];clear hU9;refine hK.out _ _ (fun _ _=>HQ.out HD9.out.box HX9.out) ?_;clear hK;try simp only [stp.pt]
     refine held.wpT_one (i:=8) (by kernel_rfl) rfl (fun Kc hK=>?_);refine step_append_lies U9 (by rfl) (.tmp 36) (.tmp 38) _ (by rfl) W.heap.size 9 i1' _ 1 16 underlying27 hi1 hv0 hv1 hv2 rfl (by omega) (.slice An N.length cn) N.length (N.map Value.string) (by rfl) HD9.out.nrow ⟨U8.heap.size,0,none⟩ 1 1 [.string x] (by rfl) (by rfl) (World.news_of_block (cs:=#[.string x]) (t:=9) (fr:=(0,0)) HN9.out) (by simp [Value.oneCell']) (by omega) (by have:=HLN.out;simp only [maxLen];omega) (by have:=HLN.out;omega) HD9.out.kp.size U9.heap.size rfl ?_;intro g8 cap8 w810 hown8 hgrow8 hat8 hlt8;have HD10:=hid (HD9.out.names2 hx hown8 hgrow8 hat8 rfl);have HX10:=hid (HD9.out.boxed HX9.out hgrow8);have HB10:=hid (HD9.out.boxed HB9.out hgrow8);clear hown8 hgrow8 hat8 hlt8;refine hK.out _ _ (fun _ _=>HQ.out HD10.out.box HX10.out) ?_;clear hK;try simp only [stp.pt]
     refine held.wpT_one (i:=15) (by kernel_rfl) rfl (fun Kc hK=>?_);refine step_append_lies w810 (by rfl) (.tmp 43) (.tmp 45) _ (by rfl) W.heap.size 46 i2' _ 7 112 underlying22 hi2 hu0 hu1 hu2 rfl (by omega) (.slice Ai I.length ci) I.length (rowCells I rs') (by rfl) HD10.out.irow ⟨V.heap.size,0,none⟩ 1 1 (rawCells y r).toList (by rfl) rfl (Jir HB10.out) (Jik y r) (by omega) (by have:=HLI.out;simp only [maxLen];omega) (by have:=HLI.out;omega) HD10.out.kp.size w810.heap.size rfl ?_;intro g9 cap9 w9 hown9 hgrow9 hat9 hlt9;have HD9:=hid (HD10.out.entry2 HR.out hown9 hgrow9 hat9 rfl);clear hown9 hgrow9 hat9 hlt9;refine hK.out _ _ (fun h=>absurd h (by decide)) ?_;clear hK;try simp only [stp.pt]
     refine stp.tk 16 47 ?_;refine stp.tk 17 48 ?_;obtain⟨w10,h10⟩:=words.nm (w9.setCell ⟨gn,2,none⟩ (.slice (some ⟨g8,0,none⟩) (N.length+1) cap8));have hd10:=HD9.out.set 2 _ (e2 g8 cap8);rw [←h10] at hd10;have HD10:=hid hd10;obtain⟨w11,h11⟩:=words.nm (w10.setCell ⟨gn,3,none⟩ (.slice (some ⟨g9,0,none⟩) (I.length+1) cap9));have hd11:=hd10.set 3 _ (e3 g8 g9 cap8 cap9);rw [←h11] at hd11;have HP:=hid hd11;clear hd10 hd11;obtain⟨s2,s3,s4,s5⟩:=K2.out _ HD9.out.box;refine held.wpT_one (i:=18) (by kernel_rfl) rfl (fun Kc hK=>?_);go_simp
     rw [←h10];clear s2 s3 s4 s5 h10 HD9;refine hK.out _ _ (fun h=>absurd h (by decide)) ?_;clear hK;try simp only [stp.pt]
     refine stp.tk 19 49 ?_;refine stp.tk 20 50 ?_;have t3:w10.cell? ⟨gn,3,none⟩=some (.slice Ai I.length ci):=(Box.cells HD10.out.box).2.2.2.1;have t4:=Jab HD10.out.box 3;refine held.wpT_one (i:=21) (by kernel_rfl) rfl (fun Kc hK=>?_);go_simp
     rw [←h11];clear t3 t4 h11 HD10;refine hK.out _ _ (fun h=>absurd h (by decide)) ?_;clear hK;try simp only [stp.pt]
     refine held.wpT_done (by kernel_rfl) ?_ _;go_wp2_with fail
     go_roundw
     case rel=>exact⟨i+1,N++[x],I++[y],rs',some ⟨g8,0,none⟩,some ⟨g9,0,none⟩,cap8,cap9,l5,c5,f5,by go_num,hid (by rw [show (N++[x]).length=N.length+1 by simp,show (I++[y]).length=I.length+1 by simp];exact HP.out),HL2⟩
     case measure=>simp [intOf];omega
   ·have he:=hend (.inr rfl)
    clear hend;go_wp2_with fail
    go_end0
    exact⟨⟨_,rfl⟩,he⟩
  ·have i1:(cnt:Int)≤(i:Int):=by omega
   have he:=hend (.inl (by omega));clear hend;go_wp2_with fail
   go_end0
   exact⟨⟨_,rfl⟩,he⟩
end Go.Proofs.YtekekhgjobahaaaGreatDoor.ima
