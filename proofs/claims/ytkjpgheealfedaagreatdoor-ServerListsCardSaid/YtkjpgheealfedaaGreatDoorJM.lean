import Derived.Test.YtkjpgheealfedaaGreatDoorJL
set_option maxHeartbeats 6400000
set_option maxRecDepth 100000
open Go.Lib (hid)
open Go.Proofs.Tryz
namespace Go.Proofs.YtkjpgheealfedaaGreatDoor.seen
open Go.RowKit words ext name tre stk

def dirsN:List Nd→Nat
 |[]=>0
 |x::T=>if x.O=true then 1 else dirsN T+1
theorem Jkv:∀T:List Nd,dirsN T≤T.length
 |[]=>Nat.le_refl _
 |x::T=>by
  have:=Jkv T;rw [dirsN,List.length_cons];split<;>omega
theorem Jlx {T:List Nd} {k:Nat} {x:Nd} (hx:T[k]?=some x):dirsN (T.drop k)=if x.O=true then 1 else dirsN (T.drop (k+1))+1:=by
 obtain⟨hk,rfl⟩:=List.getElem?_eq_some_iff.1 hx;rw [List.drop_eq_getElem_cons hk,dirsN]
theorem Jdz {w:World} {B k c:Nat} {A:Option Addr} {T:List Nd} {rs:Nat→Raw} (h1:w.ownsRow B 70 7 (.slice A k c) k (rowCells T rs)) (hN:∀(i:Nat) (x:Nd),T[i]?=some x→NdAt w w.heap.size x (rs i)):Trees w w.heap.size A T rs:=fun i x hx=>by
 refine⟨?_,hN i x hx⟩;have key:∀(j:Nat) (v:Value),(rawCells x (rs i))[j]?=some v→∃g,A=some ⟨g,0,none⟩∧g<w.heap.size∧w.cell? ⟨g,i*7+j,none⟩=some v:=fun j v hj=>by
  obtain⟨g,cur,e1,_,e3,_,e5⟩:=own_cell h1 (Ja8 hx j v hj);exact⟨g,e1,e3,e5⟩
 obtain⟨g,e1,e2,_⟩:=key 0 _ rfl;refine⟨g,0,e1,e2,fun j v hj=>?_⟩;obtain⟨g',e1',_,e3'⟩:=key j v hj;rw [e1] at e1';injection e1' with e1';injection e1' with e1';subst e1';rw [Nat.zero_add];exact e3'
def TreesOut (T:List Nd) (w:World) (e:Ending) (w':World):Prop:=∃A c rs,e= .returned (.slice A T.length c)∧Trees w' w'.heap.size A T rs∧T.length≤c∧Below w.heap.size w w'
theorem Jlk (A:Option Addr) (c:Nat) (T:List Nd) (rs:Nat→Raw) (w:World) (hT:Trees w w.heap.size A T rs) (hl:T.length≤1000):
  Calls prog 109 #[.slice A T.length c] w (TreesOut (T.take (dirsN T)) w):=by
 obtain⟨W1,hW1⟩:=words.nm (w.alloc (.cells #[] 70));have hb1:=words.b1 hW1;have HO1:Hid (W1.ownsRow w.heap.size 70 7 (.slice (some ⟨w.heap.size,0,none⟩) 0 0) 0 (rowCells (T.take 0) rs)):=hid (by rw [hW1];exact World.ownsRow_made w #[] 0 (Nat.le_refl _) (by decide) rfl);have HT:=hid hT;have HW1:=hid hW1;have HB1:=hid hb1;clear hW1 hb1 hT;have hi0:(Tryz.prog.info? 70).map (fun i=>(i.zero,i.size,i.bytes))=some (some (.agg #[.int .i64 0,.bool false,.slice none 0 0,.slice none 0 0,.int .i64 0,.slice none 0 0,.string ⟨#[]⟩]),7,112):=by kernel_rfl
 obtain⟨iS,hiS,zS0,zS1,zS2⟩:=info_parts hi0;clear hi0;go_enter func109,ntmps109
 go_upto_region 2 with fail
 rw [←HW1.out];clear HW1;go_wp2_with fail
 go_loopw [4,3] (fun v v3 wr=>∃k:Nat,v= .int .i64 (k:Int)∧k≤T.length∧Hid (dirsN T=k+dirsN (T.drop k))∧Hid (wr.ownsRow w.heap.size 70 7 v3 k (rowCells (T.take k) rs))∧Hid (Below w.heap.size w wr)) (fun v _ _=>T.length - (intOf v).toNat)
 case atStart=>exact⟨0,rfl,Nat.zero_le _,hid (by rw [List.drop_zero,Nat.zero_add]),HO1,HB1⟩
 case round=>
  clear HO1 HB1;obtain⟨k,rfl,hk,HD,HO,HB⟩:=hrel;obtain⟨Ar,cr,rfl,hcr,_⟩:=own_facts HO.out;by_cases hlt:k<T.length
  ·obtain⟨x,hx⟩:∃x,T[k]?=some x:=⟨_,List.getElem?_eq_getElem hlt⟩
   obtain⟨⟨b,off,hA,hb,hc⟩,hN⟩:=(HT.out.keep HB.out) k x hx;subst hA;obtain⟨rx,hrx⟩:=words.nm (rs k);rw [←hrx] at hc;have HRx:=hid hrx;clear hrx;have i0:(0:Int)≤(k:Int):=by omega
   have i1:(k:Int)<(T.length:Int):=by omega
   have q0:wr.cell? ⟨b,off+k*7,none⟩=some (.int .i64 x.K):=hc 0 _ rfl;have q1:wr.cell? ⟨b,off+k*7+1,none⟩=some (.bool x.O):=hc 1 _ rfl;have q2:wr.cell? ⟨b,off+k*7+2,none⟩=some (.slice rx.An x.N.length rx.cn):=hc 2 _ rfl;have q3:wr.cell? ⟨b,off+k*7+3,none⟩=some (.slice rx.Ai x.I.length rx.ci):=hc 3 _ rfl;have q4:wr.cell? ⟨b,off+k*7+4,none⟩=some (.int .i64 x.S):=hc 4 _ rfl;have q5:wr.cell? ⟨b,off+k*7+5,none⟩=some (.slice rx.Ae x.E.length rx.ce):=hc 5 _ rfl;have q6:wr.cell? ⟨b,off+k*7+6,none⟩=some (.string x.T):=hc 6 _ rfl;obtain⟨Wc,hWc⟩:=words.nm (wr.alloc (.cells #[.int .i64 x.K,.bool x.O,.slice rx.An x.N.length rx.cn,.slice rx.Ai x.I.length rx.ci,.int .i64 x.S,.slice rx.Ae x.E.length rx.ce,.string x.T] 70));have hbc:Below wr.heap.size wr Wc:=words.b1 hWc;have HNc:Hid (∀(i:Nat) (u:Value),((rawCells x rx).toList:List Value)[i]?=some u→Wc.cell? ((⟨wr.heap.size,0,none⟩:Addr).add i)=some u):=hid fun i u hi=>by rw [hWc,Jar,←Array.getElem?_toList];exact hi
   have hone:Hid (∀u∈(rawCells x rx).toList,u.oneCell'=true):=hid (by
     have:=Jbg [x] (fun _=>rx);rw [rowCells,rowCells,List.append_nil] at this;exact this)
   have HOc:=hid (ownL HO.out hbc);have HBc:=hid (HB.out.trans (hbc.mono HB.out.size));have HWc:=hid hWc.symm;have HSt:=hid (Jlx hx);have HTk:Hid (rowCells (T.take (k+1)) rs=rowCells (T.take k) rs++(rawCells x rx).toList):=hid (by
     obtain⟨hkl,hxx⟩:=List.getElem?_eq_some_iff.1 hx;rw [List.take_succ_eq_append_getElem hkl,hxx,Jbs,rowCells,rowCells,List.append_nil,List.length_take,Nat.min_eq_left hk,Nat.add_zero,HRx.out])
   have hlc:off+k*7+1=off+k*7+1:=rfl;have HQ1:=hid (fun (w':World) (hb':Below w.heap.size w w')=>(hb'.cell (p:=⟨b,off+k*7+1,none⟩) hb));clear hWc hbc HO hc hN hlc;go_upto_region 6 with (at_builtin;rw [HWc.out];refine wpList_append_own _ rfl (.tmp 12) (.tmp 17) 22 rfl w.heap.size 70 iS _ 7 112 underlying22 hiS zS0 zS1 zS2 rfl (by omega) (.slice Ar k cr) k (rowCells (T.take k) rs) rfl HOc.out ⟨wr.heap.size,0,none⟩ 1 1 (rawCells x rx).toList rfl rfl HNc.out hone.out (by simp only [maxLen];omega) (by omega) HBc.out.size ?_;intro v3' wq hownq hgrowq hnilq;obtain⟨Aq,cq,rfl,hcq,_⟩:=own_facts hownq)
   have hBq:=Jad HBc.out HOc.out hgrowq (Nat.le_refl _) (Nat.le_refl _);have o1:wq.cell? ⟨b,off+k*7+1,none⟩=some (.bool x.O):=((HQ1.out wq hBq).trans (HQ1.out wr HB.out).symm).trans q1;have HBq:=hid hBq;have HOq:Hid (wq.ownsRow w.heap.size 70 7 (.slice Aq (k+1) cq) (k+1) (rowCells (T.take (k+1)) rs)):=hid (by rw [HTk.out];exact hownq);clear hownq hgrowq hnilq hBq q0 q1 q2 q3 q4 q5 q6 HQ1 HTk HOc HBc HWc HNc hone HB;rcases ho:x.O with _ |_
   ·have HD2:Hid (dirsN T=k+1+dirsN (T.drop (k+1))):=hid (by rw [HD.out,HSt.out,ho,if_neg (by decide)];omega)
    rw [ho] at o1;clear ho HSt HD hx;go_wp2_with fail
    go_roundw
    case rel=>exact⟨k+1,by go_num,by omega,HD2,HOq,HBq⟩
    case measure=>simp [intOf];omega
   ·have HD2:Hid (dirsN T=k+1):=hid (by rw [HD.out,HSt.out,ho,if_pos rfl])
    have hlen:(T.take (k+1)).length=k+1:=by rw [List.length_take];omega
    have HFin:Hid (TreesOut (T.take (dirsN T)) w (.returned (.slice Aq (k+1) cq)) wq):=hid (by
      rw [HD2.out];exact⟨Aq,cq,rs,by rw [hlen],Jdz HOq.out fun i y hy=>(((HT.out.keep HBq.out) i y (by rw [List.getElem?_take] at hy;split at hy;exact hy;cases hy)).2.more HBq.out.size),by rw [hlen];exact hcq,HBq.out⟩)
    rw [ho] at o1;clear ho HSt HD hx hlen;go_wp2_with fail
    go_ret
    exact HFin.out
  ·obtain rfl:k=T.length:=by omega
   have HFin:Hid (TreesOut (T.take (dirsN T)) w (.returned (.slice Ar T.length cr)) wr):=hid (by
     rw [HD.out,List.drop_length,dirsN,Nat.add_zero];have h:=HO.out;rw [List.take_length] at h ⊢;exact⟨Ar,cr,rs,rfl,Jdz h fun i y hy=>(((HT.out.keep HB.out) i y hy).2.more HB.out.size),hcr,HB.out⟩)
   clear HD HO HB;go_wp2_with fail
   go_ret
   exact HFin.out


def Has (x:Nd) (s:ByteArray) (o:Option Nd):Prop:=(∃(i:Nat) (y:Nd),x.N[i]?=some s∧x.I[i]?=some y∧o=some y)∨(o=none∧∀j:Nat,x.N[j]?≠some s)
def EntN (s:ByteArray):List Nd→List Nd→Prop
 |[],Q=>Q=[]
 |x::T,Q=>∃o Q',Has x s o∧Q=o.toList++Q'∧EntN s T Q'
theorem EntN.snoc {s:ByteArray} {x:Nd} {o:Option Nd} (hl:Has x s o):∀{T Q:List Nd},EntN s T Q→EntN s (T++[x]) (Q++o.toList)
 |[],Q,h=>by
  have h':Q=[]:=h;subst h';exact⟨o,[],hl,by simp,rfl⟩
 |y::T,Q,⟨o',Q',h1,h2,h3⟩=>⟨o',_,h1,by rw [h2,List.append_assoc],EntN.snoc hl h3⟩
def putR (rs:Nat→Raw) (k:Nat) (r:Raw):Nat→Raw:=fun i=>if i=k then r else rs i
theorem Jhd (L:List Nd) (x:Nd) (rs:Nat→Raw) (r:Raw):rowCells (L++[x]) (putR rs L.length r)=rowCells L rs++(rawCells x r).toList:=by
 rw [Jbs,Jew L (putR rs L.length r) rs fun i hi=>if_neg (by omega),rowCells,rowCells,List.append_nil];unfold putR;rw [Nat.add_zero,if_pos rfl]
structure Fnd (s:ByteArray) (T Q:List Nd) (rs:Nat→Raw) (B:Nat) (v:Value) (wr:World):Prop where
 ent:EntN s T Q
 own:wr.ownsRow B 70 7 v Q.length (rowCells Q rs)
 nds:∀(i:Nat) (x:Nd),Q[i]?=some x→NdAt wr B x (rs i)
theorem Jgk (A:Option Addr) (c:Nat) (T:List Nd) (rs:Nat→Raw) (s:ByteArray) (w:World) (hT:Trees w w.heap.size A T rs) (hl:T.length≤1000) (hln:∀x∈T,x.N.length=x.I.length):
  Calls prog 108 #[.slice A T.length c,.string s] w fun e w'=>∃Q,EntN s T Q∧Q.length≤T.length∧TreesOut Q w e w':=by
 obtain⟨W1,hW1⟩:=words.nm (w.alloc (.cells #[] 70));have hb1:=words.b1 hW1;have HO1:Hid (Fnd s (T.take 0) [] rs w.heap.size (.slice (some ⟨w.heap.size,0,none⟩) 0 0) W1):=hid ⟨rfl,by rw [hW1];exact World.ownsRow_made w #[] 0 (Nat.le_refl _) (by decide) rfl,fun i x hx=>by simp at hx⟩;have HT:=hid hT;have HLn:=hid hln;have HW1:=hid hW1;have HB1:=hid hb1;clear hW1 hb1 hT hln;have hi0:(Tryz.prog.info? 70).map (fun i=>(i.zero,i.size,i.bytes))=some (some (.agg #[.int .i64 0,.bool false,.slice none 0 0,.slice none 0 0,.int .i64 0,.slice none 0 0,.string ⟨#[]⟩]),7,112):=by kernel_rfl
 obtain⟨iS,hiS,zS0,zS1,zS2⟩:=info_parts hi0;clear hi0;go_enter func108,ntmps108
 go_upto_region 2 with fail
 rw [←HW1.out];clear HW1;go_wp2_with fail
 go_loopw [6,5] (fun v v3 wr=>∃(k:Nat) (Q:List Nd) (rq:Nat→Raw),v= .int .i64 (k:Int)∧k≤T.length∧Q.length≤k∧Hid (Fnd s (T.take k) Q rq w.heap.size v3 wr)∧Hid (Below w.heap.size w wr)) (fun v _ _=>T.length - (intOf v).toNat)
 case atStart=>exact⟨0,[],rs,rfl,Nat.zero_le _,Nat.le_refl _,HO1,HB1⟩
 case round=>
  clear HO1 HB1;obtain⟨k,Q,rq,rfl,hk,hq,HO,HB⟩:=hrel;obtain⟨Ar,cr,rfl,hcr,_⟩:=own_facts HO.out.own;by_cases hlt:k<T.length
  ·obtain⟨x,hx⟩:∃x,T[k]?=some x:=⟨_,List.getElem?_eq_getElem hlt⟩
   obtain⟨⟨b,off,hA,hb,hc⟩,hN⟩:=(HT.out.keep HB.out) k x hx;subst hA;obtain⟨rx,hrx⟩:=words.nm (rs k);rw [←hrx] at hc hN;clear hrx;have i0:(0:Int)≤(k:Int):=by omega
   have i1:(k:Int)<(T.length:Int):=by omega
   have q0:wr.cell? ⟨b,off+k*7,none⟩=some (.int .i64 x.K):=hc 0 _ rfl;have q1:wr.cell? ⟨b,off+k*7+1,none⟩=some (.bool x.O):=hc 1 _ rfl;have q2:wr.cell? ⟨b,off+k*7+2,none⟩=some (.slice rx.An x.N.length rx.cn):=hc 2 _ rfl;have q3:wr.cell? ⟨b,off+k*7+3,none⟩=some (.slice rx.Ai x.I.length rx.ci):=hc 3 _ rfl;have q4:wr.cell? ⟨b,off+k*7+4,none⟩=some (.int .i64 x.S):=hc 4 _ rfl;have q5:wr.cell? ⟨b,off+k*7+5,none⟩=some (.slice rx.Ae x.E.length rx.ce):=hc 5 _ rfl;have q6:wr.cell? ⟨b,off+k*7+6,none⟩=some (.string x.T):=hc 6 _ rfl;have hNr:=hN;have hF:=Jjd x rx s wr (hN.more HB.out.size);unfold ndV rawCells at hF;have HF:=hid hF;have HX:=hid hx;have HNr:=hid hNr;have HLx:=hid (HLn.out x (List.mem_of_getElem? hx));have hb':b<wr.heap.size:=Nat.lt_of_lt_of_le hb HB.out.size;clear hc hN hF hx hb hNr;go_wp2_with fail
   refine HF.out.mono ?_;rintro e w2 ⟨hpl,hb2⟩;have HB2:=hid (HB.out.trans (hb2.mono HB.out.size));have HO2:Hid (Fnd s (T.take k) Q rq w.heap.size (.slice Ar Q.length cr) w2):=hid ⟨HO.out.ent,ownL HO.out.own hb2,fun i y hy=>(HO.out.nds i y hy).keep (hb2.mono HB.out.size)⟩;have p3:w2.cell? ⟨b,off+k*7+3,none⟩=some (.slice rx.Ai x.I.length rx.ci):=(hb2.cell (p:=⟨b,off+k*7+3,none⟩) hb').trans q3;have HN2:=hid (HNr.out.keep (hb2.mono HB.out.size));have HTs:Hid (∀o,Has x s o→EntN s (T.take (k+1)) (Q++o.toList)):=hid fun o ho=>by
    obtain⟨hkl,hxx⟩:=List.getElem?_eq_some_iff.1 HX.out;rw [List.take_succ_eq_append_getElem hkl,hxx];exact EntN.snoc ho HO.out.ent
   clear q0 q1 q2 q3 q4 q5 q6 hb2 HF HB HO HNr hb';rcases hpl with⟨i,rfl,hi⟩ |⟨rfl,hno⟩
   ·have hil:i<x.I.length:=by have:=(List.getElem?_eq_some_iff.1 hi).1;have:=HLx.out;omega
    obtain⟨y,hy⟩:∃y,x.I[i]?=some y:=⟨_,List.getElem?_eq_getElem hil⟩
    obtain⟨ry,hNy,b2,off2,hAi,_,y0,y1,y2,y3,y4,y5,y6⟩:=HN2.out.entry hy (Below.refl _ _);have j0:(0:Int)≤(i:Int):=by omega
    have j1:(i:Int)<(x.I.length:Int):=by omega
    rw [hAi] at p3;obtain⟨Wc,hWc⟩:=words.nm (w2.alloc (.cells #[.int .i64 y.K,.bool y.O,.slice ry.An y.N.length ry.cn,.slice ry.Ai y.I.length ry.ci,.int .i64 y.S,.slice ry.Ae y.E.length ry.ce,.string y.T] 70));have hbc:Below w2.heap.size w2 Wc:=words.b1 hWc;have HNc:Hid (∀(i:Nat) (u:Value),((rawCells y ry).toList:List Value)[i]?=some u→Wc.cell? ((⟨w2.heap.size,0,none⟩:Addr).add i)=some u):=hid fun i u hi=>by rw [hWc,Jar,←Array.getElem?_toList];exact hi
    have hone:Hid (∀u∈(rawCells y ry).toList,u.oneCell'=true):=hid (by
      have:=Jbg [y] (fun _=>ry);rw [rowCells,rowCells,List.append_nil] at this;exact this)
    have HOc:=hid (ownL HO2.out.own hbc);have HBc:=hid (HB2.out.trans (hbc.mono HB2.out.size));have HWc:=hid hWc.symm;have HE1:=hid (HTs.out (some y) (.inl ⟨i,y,hi,hy,rfl⟩));have HNy:=hid hNy;have HNQ:=hid HO2.out.nds;have HB2c:=hid hbc;clear hWc hbc hi hy hNy hAi HO2 hil;go_wp2_with (at_builtin;rw [HWc.out];refine wpList_append_own _ rfl (.tmp 23) (.tmp 32) 22 rfl w.heap.size 70 iS _ 7 112 underlying22 hiS zS0 zS1 zS2 rfl (by omega) (.slice Ar Q.length cr) Q.length (rowCells Q rq) rfl HOc.out ⟨w2.heap.size,0,none⟩ 1 1 (rawCells y ry).toList rfl rfl HNc.out hone.out (by simp only [maxLen];omega) (by omega) HBc.out.size ?_;intro v3' wq hownq hgrowq hnilq)
    have HBq:=hid (Jad HBc.out HOc.out hgrowq (Nat.le_refl _) (Nat.le_refl _));have hwq:=Jad (HB2c.out.mono HB2.out.size) HOc.out hgrowq (Nat.le_refl _) HB2.out.size;have HOq:Hid (Fnd s (T.take (k+1)) (Q++[y]) (putR rq Q.length ry) w.heap.size v3' wq):=hid ⟨HE1.out,by rw [Jhd,List.length_append];exact hownq,fun i x hx=>by
      unfold putR;rcases Nat.lt_or_ge i Q.length with h |h
      ·rw [if_neg (by omega)]
       rw [List.getElem?_append_left h] at hx;exact (HNQ.out i x hx).keep hwq
      ·rw [List.getElem?_append_right h] at hx
       have h0:i - Q.length=0:=by
        have:=(List.getElem?_eq_some_iff.1 hx).1;simpa using this
       rw [h0] at hx;obtain rfl:y=x:=by simpa using hx
       rw [if_pos (by omega)];exact HNy.out.keep hwq⟩
    clear hownq hgrowq hnilq hwq;go_roundw
    case rel=>exact⟨k+1,Q++[y],putR rq Q.length ry,by go_num,by omega,by rw [List.length_append];exact Nat.succ_le_succ hq,HOq,HBq⟩
    case measure=>simp [intOf];omega
   ·have HE1:Hid (EntN s (T.take (k+1)) Q):=hid (by have:=HTs.out none (.inr ⟨rfl,hno⟩);simpa using this)
    have HO3:Hid (Fnd s (T.take (k+1)) Q rq w.heap.size (.slice Ar Q.length cr) w2):=hid ⟨HE1.out,HO2.out.own,HO2.out.nds⟩;clear hno HE1 HO2;go_wp2_with fail
    go_roundw
    case rel=>exact⟨k+1,Q,rq,by go_num,by omega,by omega,HO3,HB2⟩
    case measure=>simp [intOf];omega
  ·obtain rfl:k=T.length:=by omega
   have HFin:Hid (∃Q',EntN s T Q'∧Q'.length≤T.length∧TreesOut Q' w (.returned (.slice Ar Q.length cr)) wr):=hid ⟨Q,by have:=HO.out.ent;rwa [List.take_length] at this,hq,Ar,cr,rq,rfl,Jdz HO.out.own (fun i x hx=>(HO.out.nds i x hx).more HB.out.size),hcr,HB.out⟩;clear HO HB;go_wp2_with fail
   go_ret
   exact HFin.out

def headN:List Nd→Nat
 |[]=>0
 |x::T=>if x.K=2 then headN T+1 else 0
theorem Jly {T:List Nd} {k:Nat} {x:Nd} (hx:T[k]?=some x):headN (T.drop k)=if x.K=2 then headN (T.drop (k+1))+1 else 0:=by
 obtain⟨hk,rfl⟩:=List.getElem?_eq_some_iff.1 hx;rw [List.drop_eq_getElem_cons hk,headN]
def seenOf (Q:List Nd):List Nd:=match Q with
 |[]=>[]
 |x::_=>if x.K=4 then [] else if x.K=2 then (Q.take (headN Q)).take (dirsN (Q.take (headN Q))) else Q.take 1
theorem Jgw {w:World} {B:Nat} {A:Option Addr} {T:List Nd} {rs:Nat→Raw} (h:Trees w B A T rs) (n:Nat):Trees w B A (T.take n) rs:=fun i x hx=>h i x (by
  rw [List.getElem?_take] at hx;split at hx
  ·exact hx
  ·cases hx)
theorem Jim (A:Option Addr) (n cap i:Nat) (h:i≤cap) (wx:World):
  (Instr.slice 22 (.slice A n cap) none (some (.int .i64 (i:Int))) none).run prog wx= .ok (.slice A i cap) wx:=by
 have hi0:(Tryz.prog.info? 70).map (fun i=>(i.zero,i.size,i.bytes))=some (some (.agg #[.int .i64 0,.bool false,.slice none 0 0,.slice none 0 0,.int .i64 0,.slice none 0 0,.string ⟨#[]⟩]),7,112):=by kernel_rfl
 obtain⟨i0,hi,hz0,hz1,hz2⟩:=info_parts hi0;have he:Tryz.prog.elem 22=70:=by kernel_rfl
 rw [run_slice_h (P:=prog) wx 22 A n cap (by kernel_rfl) .i64 (i:Int) (by omega) (by omega),he];simp [sizeOf,typeInfo,hi,hz1,Result.andThen,sliced];rcases A with _ |A
 ·intro _;rfl
 ·simp [Addr.add]
theorem Jjk (A:Option Addr) (c:Nat) (T:List Nd) (rs:Nat→Raw) (s:ByteArray) (w:World) (hT:Trees w w.heap.size A T rs) (hl:T.length≤1000) (hln:∀x∈T,x.N.length=x.I.length):
  Calls prog 75 #[.slice A T.length c,.string s] w fun e w'=>∃Q,EntN s T Q∧Q.length≤T.length∧TreesOut (seenOf Q) w e w':=by
 have HC:=hid (Jgk A c T rs s w hT hl hln);clear hT hln;go_enter func75,ntmps75
 go_wp2_with fail
 refine HC.out.mono ?_;rintro e w1 ⟨Q,hE,hq,Aq,cq,rq,rfl,hTq,hcq,hb1⟩;have HE:=hid hE;have HT:=hid hTq;have HB:=hid hb1;clear hE hTq hb1 HC;rcases Q with _ |⟨x,Q'⟩
 ·go_wp2_with fail
  go_ret
  exact⟨[],HE.out,hq,none,0,rq,rfl,fun i x hx=>by simp [seenOf] at hx,Nat.le_refl _,HB.out⟩
 ·obtain⟨Q,hQ⟩:=words.nm (x::Q')
  have HSe:Hid (seenOf Q=if x.K=4 then [] else if x.K=2 then (Q.take (headN Q)).take (dirsN (Q.take (headN Q))) else Q.take 1):=hid (by rw [hQ];rfl);have hx:Q[0]?=some x:=by rw [hQ];rfl
  have hlen:0<Q.length:=by rw [hQ];simp
  rw [←hQ] at HE HT hq hcq ⊢;clear hQ;obtain⟨⟨b,off,hA,hb,hc⟩,_⟩:=HT.out 0 x hx;subst hA;have q0:w1.cell? ⟨b,off,none⟩=some (.int .i64 x.K):=by
   have h0:w1.cell? ⟨b,off+0*7+0,none⟩=some (.int .i64 x.K):=hc 0 _ rfl;simpa using h0
  have l0:(0:Int)<(Q.length:Int):=by omega
  have ln0:((Q.length:Int)==0)=false:=by rw [beq_eq_false_iff_ne];omega
  clear hc hb hx;rcases Decidable.em (x.K=4) with h4 |h4
  ·have g4:(x.K==4)=true:=by simp [h4]
   have HS4:Hid (seenOf Q=[]):=hid (by rw [HSe.out,if_pos h4]);clear h4 HSe;go_wp2_with fail
   go_ret
   exact⟨Q,HE.out,hq,none,0,rq,by rw [HS4.out];rfl,fun i x hx=>by rw [HS4.out] at hx;simp at hx,by rw [HS4.out];exact Nat.le_refl _,HB.out⟩
  ·have g4:(x.K==4)=false:=by simp [h4]
   rcases Decidable.em (x.K=2) with h2 |h2
   ·have g2:(x.K !=2)=false:=by simp [h2]
    have HS4:Hid (seenOf Q=(Q.take (headN Q)).take (dirsN (Q.take (headN Q)))):=hid (by rw [HSe.out,if_neg h4,if_pos h2]);clear h4 h2 HSe;go_wp2_with fail
    go_loopw [6] (fun v wr=>∃k:Nat,v= .int .i64 (k:Int)∧k≤Q.length∧Hid (headN Q=k+headN (Q.drop k))∧wr=w1) (fun v _=>Q.length - (intOf v).toNat)
    case atStart=>exact⟨0,rfl,Nat.zero_le _,hid (by rw [List.drop_zero,Nat.zero_add]),rfl⟩
    case round=>
     obtain⟨k,rfl,hk,HO,rfl⟩:=hrel;have hfin:∀hn:headN Q=k,Calls prog 109 #[.slice (some ⟨b,off,none⟩) k cq] wr (TreesOut (seenOf Q) wr):=fun hn=>by
      rw [HS4.out,hn];have:=Jlk (some ⟨b,off,none⟩) cq (Q.take k) rq wr (Jgw HT.out k) (by rw [List.length_take];omega);rwa [show (Q.take k).length=k by rw [List.length_take];omega] at this
     have HFin:=hid hfin;have hcut:=Jim (some ⟨b,off,none⟩) Q.length cq k (by omega);clear hfin q0;by_cases hlt:k<Q.length
     ·obtain⟨y,hy⟩:∃y,Q[k]?=some y:=⟨_,List.getElem?_eq_getElem hlt⟩
      obtain⟨⟨b',off',hA,_,hc⟩,_⟩:=HT.out k y hy;injection hA with hA;injection hA with hA hA';subst hA hA';have p0:wr.cell? ⟨b,off+k*7,none⟩=some (.int .i64 y.K):=hc 0 _ rfl;have i0:(0:Int)≤(k:Int):=by omega
      have i1:(k:Int)<(Q.length:Int):=by omega
      have HSt:=hid (Jly hy);clear hc hy;rcases Decidable.em (y.K=2) with hy2 |hy2
      ·have gy:(y.K==2)=true:=by simp [hy2]
       have HO2:Hid (headN Q=k+1+headN (Q.drop (k+1))):=hid (by rw [HO.out,HSt.out,if_pos hy2];omega);clear hy2 HSt HO hcut;go_wp2_with fail
       go_roundw
       case rel=>exact⟨k+1,by go_num,by omega,HO2,trivial⟩
       case measure=>simp [intOf];omega
      ·have gy:(y.K==2)=false:=by simp [hy2]
       have HCd:=hid (HFin.out (by rw [HO.out,HSt.out,if_neg hy2];rfl));clear hy2 HSt HO HFin;go_wp2_with fail
       refine HCd.out.mono ?_;rintro e w5 ⟨A5,c5,r5,rfl,h1,h2,hb5⟩;have HF:Hid (TreesOut (seenOf Q) w (.returned (.slice A5 (seenOf Q).length c5)) w5):=hid ⟨A5,c5,r5,rfl,h1,h2,HB.out.trans (hb5.mono HB.out.size)⟩;clear h1 h2 hb5 HCd;go_wp2_with fail
       go_ret
       exact⟨Q,HE.out,hq,HF.out⟩
     ·obtain rfl:k=Q.length:=by omega
      have HCd:=hid (HFin.out (by rw [HO.out,List.drop_length,headN];rfl));clear HO HFin;go_wp2_with fail
      refine HCd.out.mono ?_;rintro e w5 ⟨A5,c5,r5,rfl,h1,h2,hb5⟩;have HF:Hid (TreesOut (seenOf Q) w (.returned (.slice A5 (seenOf Q).length c5)) w5):=hid ⟨A5,c5,r5,rfl,h1,h2,HB.out.trans (hb5.mono HB.out.size)⟩;clear h1 h2 hb5 HCd;go_wp2_with fail
      go_ret
      exact⟨Q,HE.out,hq,HF.out⟩
   ·have g2:(x.K !=2)=true:=by simp [h2]
    have HS4:Hid (seenOf Q=Q.take 1):=hid (by rw [HSe.out,if_neg h4,if_neg h2]);have hcut:=Jim (some ⟨b,off,none⟩) Q.length cq 1 (by omega);have hl1:(Q.take 1).length=1:=by rw [List.length_take];omega
    have HF:Hid (TreesOut (seenOf Q) w (.returned (.slice (some ⟨b,off,none⟩) 1 cq)) w1):=hid (by
      rw [HS4.out];exact⟨_,cq,rq,by rw [hl1],Jgw HT.out 1,by rw [hl1];omega,HB.out⟩)
    clear h4 h2 HSe hl1;go_wp2_with fail
    go_ret
    exact⟨Q,HE.out,hq,HF.out⟩

mutual
theorem Jkc:∀(n x:Nd) (k:Nat),(preN n)[k]?=some x→∃M,(preN n).drop k=preN x++M
 | .mk K O N I S E T,x,k,h=>by
  rcases k with _ |k
  ·rw [Jdf] at h
   obtain rfl:Nd.mk K O N I S E T=x:=by simpa using h
   exact⟨[],by rw [List.drop_zero,List.append_nil]⟩
  ·rw [Jdf] at h ⊢
   rw [List.drop_succ_cons];exact Jkp I x k (by rw [List.getElem?_cons_succ] at h;exact h)
theorem Jkp:∀(L:List Nd) (x:Nd) (k:Nat),(preL L)[k]?=some x→∃M,(preL L).drop k=preN x++M
 |[],x,k,h=>by rw [Jdp] at h;simp at h
 |y::L,x,k,h=>by
  rw [Jbc] at h ⊢;by_cases hk:k<(preN y).length
  ·rw [List.getElem?_append_left hk] at h
   obtain⟨M,hM⟩:=Jkc y x k h;exact⟨M++preL L,by rw [List.drop_append_of_le_length (Nat.le_of_lt hk),hM,List.append_assoc]⟩
  ·rw [List.getElem?_append_right (by omega)] at h
   obtain⟨M,hM⟩:=Jkp L x _ h;refine⟨M,?_⟩;rw [List.drop_append,List.drop_eq_nil_of_le (by omega),List.nil_append,hM]
end
theorem Jnc:∀{L:List Nd} {i:Nat} {y:Nd},L[i]?=some y→(preL L)[countL (L.take i)]?=some y
 |[],i,y,h=>by simp at h
 |x::L,0,y,h=>by
  obtain rfl:x=y:=by simpa using h
  rw [List.take_zero,Jao,Jbc,Jdf];rfl
 |x::L,i+1,y,h=>by
  rw [List.take_succ_cons,Jai,Jbc,List.getElem?_append_right (by rw [Jbl];omega),Jbl,Nat.add_sub_cancel_left];exact Jnc (by simpa using h)
theorem Je6 {n x y:Nd} {k i:Nat} (hx:(preN n)[k]?=some x) (hy:x.I[i]?=some y):(preN n)[k+1+countL (x.I.take i)]?=some y:=by
 obtain⟨M,hM⟩:=Jkc n x k hx;have h1:=Jnc hy;have h2:((preN n).drop k)[1+countL (x.I.take i)]?=some y:=by
  have hlt:countL (x.I.take i)<(preL x.I).length:=(List.getElem?_eq_some_iff.1 h1).1;rw [hM,Jdf,Nat.add_comm,List.cons_append,List.getElem?_cons_succ,List.getElem?_append_left hlt];exact h1
 rw [List.getElem?_drop] at h2;rw [←h2];congr 1;omega
def At (R:List Nd) (x:Nat×Nat) (d:Nd):Prop:=∃t,R[x.1]?=some t∧(preN t)[x.2]?=some d
def tabs (R:List Nd):List (List Ent):=R.map (flatN 0)
theorem Jbo (R:List Nd):(tabs R).length=R.length:=by unfold tabs;rw [List.length_map]
theorem Jem {R:List Nd} {i:Nat} {t:Nd} (h:R[i]?=some t):(tabs R)[i]?=some (flatN 0 t):=by unfold tabs;rw [List.getElem?_map,h];rfl
theorem At.ent {R:List Nd} {x:Nat×Nat} {d:Nd} (h:At R x d):entAt (tabs R) x=some (entOf x.2 d):=by
 obtain⟨t,h1,h2⟩:=h;unfold entAt;rw [Jem h1];exact Jcs h2
theorem At.one {R:List Nd} {x:Nat×Nat} {d:Nd} (h:At R x d) (hall:∀t∈R,allB t=true):oneB d=true:=by
 obtain⟨t,h1,h2⟩:=h;exact Jhk ((Jhf t d (List.mem_of_getElem? h2)).2.2 (hall t (List.mem_of_getElem? h1)))
theorem Jpb {R:List Nd} {E:List Ent} {e:Ent} (hE:E∈tabs R) (he:e∈E):∃t k x,t∈R∧E=flatN 0 t∧(preN t)[k]?=some x∧e=entOf k x:=by
 unfold tabs at hE;obtain⟨t,ht,rfl⟩:=List.mem_map.1 hE;obtain⟨k,hk⟩:=List.mem_iff_getElem?.1 he;have hlt:k<(preN t).length:=by
  rw [Jbl,←Je0 0 t];exact (List.getElem?_eq_some_iff.1 hk).1
 have hx:=List.getElem?_eq_getElem hlt;refine⟨t,k,_,ht,rfl,hx,?_⟩;rw [Jcs hx] at hk;exact (Option.some.inj hk).symm
theorem Jkm {R:List Nd} (hall:∀t∈R,allB t=true):∀E∈tabs R,∀e∈E,Asc e.x.N∧e.ids.length=e.x.N.length:=fun E hE e he=>by
 obtain⟨t,k,x,ht,rfl,hx,rfl⟩:=Jpb hE he;obtain⟨h1,h2,_⟩:=Jbd (Jhk ((Jhf t x (List.mem_of_getElem? hx)).2.2 (hall t ht)));have hN:(entOf k x).x.N=x.N:=Jhh x;rw [hN];exact⟨h1,by rw [h2];exact Jbe _ _⟩
theorem Jm5 {R:List Nd}:∀E∈tabs R,∀e∈E,∀(i:Nat) id,e.ids[i]?=some id→∃e',E[id]?=some e':=fun E hE e he i id hi=>by
 obtain⟨t,k,x,ht,rfl,hx,rfl⟩:=Jpb hE he;have hl:i<x.I.length:=by
  have:=(List.getElem?_eq_some_iff.1 hi).1;rwa [show (entOf k x).ids.length=x.I.length from Jbe _ _] at this
 have h2:(entOf k x).ids[i]?=some (k+1+countL (x.I.take i)):=Jd3 hl;rw [h2] at hi;obtain rfl:=Option.some.inj hi;exact⟨_,Jcs (Je6 hx (List.getElem?_eq_getElem hl))⟩
def Ats (R:List Nd):List (Nat×Nat)→List Nd→Prop
 |[],[]=>True
 |x::P,d::D=>At R x d∧Ats R P D
 |_,_=>False
theorem Ats.length {R:List Nd}:∀{P:List (Nat×Nat)} {D:List Nd},Ats R P D→P.length=D.length
 |[],[],_=>rfl
 |x::P,d::D,h=>by rw [List.length_cons,List.length_cons,h.2.length]
 |[],_::_,h=>h.elim
 |_::_,[],h=>h.elim
theorem Ats.at_ {R:List Nd}:∀{P:List (Nat×Nat)} {D:List Nd},Ats R P D→∀{i:Nat} {x:Nat×Nat},P[i]?=some x→∃d,D[i]?=some d∧At R x d
 |[],[],_,i,x,hx=>by simp at hx
 |y::P,d::D,h,0,x,hx=>by
  obtain rfl:y=x:=by simpa using hx
  exact⟨d,rfl,h.1⟩
 |y::P,d::D,h,i+1,x,hx=>by
  obtain⟨d',h1,h2⟩:=h.2.at_ (i:=i) (by simpa using hx);exact⟨d',by simpa using h1,h2⟩
 |[],_::_,h,_,_,_=>h.elim
 |_::_,[],h,_,_,_=>h.elim
theorem Ats.take {R:List Nd}:∀{P:List (Nat×Nat)} {D:List Nd},Ats R P D→∀n:Nat,Ats R (P.take n) (D.take n)
 |[],[],_,n=>by rw [List.take_nil,List.take_nil];trivial
 |y::P,d::D,h,0=>by rw [List.take_zero,List.take_zero];trivial
 |y::P,d::D,h,n+1=>by rw [List.take_succ_cons,List.take_succ_cons];exact⟨h.1,h.2.take n⟩
 |[],_::_,h,_=>h.elim
 |_::_,[],h,_=>h.elim
theorem Ats.all {R:List Nd} {P:List (Nat×Nat)} {D:List Nd} (h:Ats R P D):∀x∈P,∃e,entAt (tabs R) x=some e:=fun x hx=>by
 obtain⟨i,hi⟩:=List.mem_iff_getElem?.1 hx;obtain⟨d,_,h2⟩:=h.at_ hi;exact⟨_,h2.ent⟩
theorem Ats.mem {R:List Nd}:∀{P:List (Nat×Nat)} {D:List Nd},Ats R P D→∀d∈D,∃x∈P,At R x d
 |[],[],_,d,hd=>by cases hd
 |y::P,c::D,h,d,hd=>by
  rcases List.mem_cons.1 hd with rfl |hd
  ·exact⟨y,List.mem_cons_self ..,h.1⟩
  ·obtain⟨x,hx,ha⟩:=h.2.mem d hd
   exact⟨x,List.mem_cons_of_mem _ hx,ha⟩
 |[],_::_,h,_,_=>h.elim
 |_::_,[],h,_,_=>h.elim
def Up (P:List (Nat×Nat)):Prop:=(P.map Prod.fst).Pairwise (·<·)
theorem Up.sub {P Q:List (Nat×Nat)} (h:Up P) (hs:(Q.map Prod.fst).Sublist (P.map Prod.fst)):Up Q:=List.Pairwise.sublist hs h
theorem Up.take {P:List (Nat×Nat)} (h:Up P) (n:Nat):Up (P.take n):=h.sub ((List.take_sublist n P).map _)
theorem Up.lt {P:List (Nat×Nat)} (h:Up P) {i j:Nat} {x y:Nat×Nat} (hij:i<j) (hx:P[i]?=some x) (hy:P[j]?=some y):x.1<y.1:=by
 obtain⟨hi,rfl⟩:=List.getElem?_eq_some_iff.1 hx;obtain⟨hj,rfl⟩:=List.getElem?_eq_some_iff.1 hy;have:=List.pairwise_iff_getElem.1 h i j (by rw [List.length_map];exact hi) (by rw [List.length_map];exact hj) hij;rwa [List.getElem_map,List.getElem_map] at this
def Top (P:List (Nat×Nat)) (D:List Nd) (s:ByteArray) (x:Nat×Nat):Prop:=
 ∃(k:Nat) (p:Nat×Nat) (y:Nd) (i:Nat),P[k]?=some p∧x=(p.1,p.2+1+countL (y.I.take i))∧D[k]?=some y∧y.N[i]?=some s∧∀z∈D.take k,∀j:Nat,z.N[j]?≠some s
theorem join {R:List Nd} {s:ByteArray} (hall:∀t∈R,allB t=true):∀{P:List (Nat×Nat)} {D:List Nd} {Q:List (Nat×Nat)} {Q':List Nd},Ats R P D→EntsOf (tabs R) s P Q→EntN s D Q'→
  Ats R Q Q'∧(Q.map Prod.fst).Sublist (P.map Prod.fst)∧(∀q∈Q',∃d∈D,∃i:Nat,d.I[i]?=some q∧d.N[i]?=some s)∧(∀x,Q[0]?=some x→Top P D s x)
 |[],[],Q,Q',_,h1,h2=>by
  have h1':Q=[]:=h1;have h2':Q'=[]:=h2;subst h1' h2';exact⟨trivial,List.Sublist.refl _,fun q hq=>(by cases hq),fun x hx=>(by simp at hx)⟩
 |y::P,d::D,Q,Q',h,⟨e,o,Q1,he,hl,hQ,hr⟩,⟨o',Q1',hh,hQ',hr'⟩=>by
  obtain⟨i1,i2,i3,i4⟩:=join hall h.2 hr hr';have hent:=h.1.ent;rw [he] at hent;obtain rfl:=Option.some.inj hent;have hN:(entOf y.2 d).x.N=d.N:=Jhh d;have h1:=Jbd (h.1.one hall);unfold Lk at hl;rw [hN] at hl;subst hQ hQ';rcases hl with⟨i,id,a1,a2,rfl⟩ |⟨rfl,a1⟩
  ·rcases hh with⟨i',z,b1,b2,rfl⟩ |⟨rfl,b1⟩
   ·obtain rfl:=h1.1.one a1 b1
    have hlt:i<d.I.length:=(List.getElem?_eq_some_iff.1 b2).1;have h2:(entOf y.2 d).ids[i]?=some (y.2+1+countL (d.I.take i)):=Jd3 hlt;rw [h2] at a2;obtain rfl:=Option.some.inj a2;obtain⟨t,c1,c2⟩:=h.1;refine⟨⟨⟨t,c1,Je6 c2 b2⟩,i1⟩,?_,fun q hq=>?_,fun x hx=>?_⟩
    ·simpa using i2
    ·have hq':q=z∨q∈Q1':=by simpa using hq
     rcases hq' with rfl |hq'
     ·exact⟨d,List.mem_cons_self ..,i,b2,b1⟩
     ·obtain⟨d',e1,e2⟩:=i3 q hq'
      exact⟨d',List.mem_cons_of_mem _ e1,e2⟩
    ·have hx':(y.1,y.2+1+countL (d.I.take i))=x:=by simpa using hx
     subst hx';exact⟨0,y,d,i,rfl,rfl,rfl,b1,fun z hz=>by simp at hz⟩
   ·exact (b1 i a1).elim
  ·rcases hh with⟨i',z,b1,b2,rfl⟩ |⟨rfl,b1⟩
   ·exact (a1 i' b1).elim
   ·refine⟨i1,?_,fun q hq=>?_,fun x hx=>?_⟩
    ·exact List.Sublist.cons _ i2
    ·obtain⟨d',e1,e2⟩:=i3 q (by simpa using hq)
     exact⟨d',List.mem_cons_of_mem _ e1,e2⟩
    ·obtain⟨k,p,z,i,g1,g2,g3,g4,g5⟩:=i4 x (by simpa using hx)
     refine⟨k+1,p,z,i,by simpa using g1,g2,by simpa using g3,g4,fun c hc=>?_⟩;rw [List.take_succ_cons] at hc;rcases List.mem_cons.1 hc with rfl |hc
     ·exact b1
     ·exact g5 c hc
 |[],_::_,_,_,h,_,_=>h.elim
 |_::_,[],_,_,h,_,_=>h.elim
theorem EntN.uniq {s:ByteArray}:∀{D Q Q':List Nd},(∀d∈D,Asc d.N)→EntN s D Q→EntN s D Q'→Q=Q'
 |[],Q,Q',_,h1,h2=>by
  have h1':Q=[]:=h1;have h2':Q'=[]:=h2;rw [h1',h2']
 |d::D,Q,Q',ha,⟨o,Q1,hh,hQ,hr⟩,⟨o',Q1',hh',hQ',hr'⟩=>by
  have ih:=EntN.uniq (fun d hd=>ha d (List.mem_cons_of_mem _ hd)) hr hr';subst hQ hQ' ih;congr 1;rcases hh with⟨i,y,a1,a2,rfl⟩ |⟨rfl,a1⟩
  ·rcases hh' with⟨i',y',b1,b2,rfl⟩ |⟨rfl,b1⟩
   ·obtain rfl:=(ha d (List.mem_cons_self ..)).one a1 b1
    rw [a2] at b2;obtain rfl:=Option.some.inj b2;rfl
   ·exact (b1 _ a1).elim
  ·rcases hh' with⟨i',y',b1,b2,rfl⟩ |⟨rfl,b1⟩
   ·exact (a1 _ b1).elim
   ·rfl
theorem EntN.some {s:ByteArray}:∀{D:List Nd},(∀d∈D,d.N.length=d.I.length)→∃Q,EntN s D Q
 |[],_=>⟨[],rfl⟩
 |d::D,hl=>by
  obtain⟨Q,hQ⟩:=EntN.some (s:=s) (D:=D) fun c hc=>hl c (List.mem_cons_of_mem _ hc);by_cases h:∃i:Nat,d.N[i]?=Option.some s
  ·obtain⟨i,hi⟩:=h
   have hlt:i<d.I.length:=by rw [←hl d (List.mem_cons_self ..)];exact (List.getElem?_eq_some_iff.1 hi).1
   exact⟨_,Option.some d.I[i],Q,.inl ⟨i,_,hi,List.getElem?_eq_getElem hlt,rfl⟩,rfl,hQ⟩
  ·exact⟨_,none,Q,.inr ⟨rfl,fun j hj=>h ⟨j,hj⟩⟩,rfl,hQ⟩
theorem Jdu {R:List Nd}:∀{Q:List (Nat×Nat)} {D:List Nd},Ats R Q D→oneN (tabs R) Q=dirsN (D.take (headN D))
 |[],[],_=>rfl
 |x::Q,d::D,h=>by
  rw [oneN,h.1.ent,headN];have h1:(entOf x.2 d).x.K=d.K:=Jcg d;have h2:(entOf x.2 d).x.O=d.O:=Jsl d;simp only [h1,h2];by_cases hk:d.K=2
  ·rw [if_pos hk,if_pos hk,List.take_succ_cons,dirsN,Jdu h.2]
  ·rw [if_neg hk,if_neg hk,List.take_zero];rfl
 |[],_::_,h=>h.elim
 |_::_,[],h=>h.elim
theorem Jfl:∀(D:List Nd),∀d∈D.take (headN D),d.K=2
 |[],d,h=>by simp at h
 |x::D,d,h=>by
  rw [headN] at h;split at h
  ·rename_i hk
   rw [List.take_succ_cons] at h;rcases List.mem_cons.1 h with rfl |h
   ·exact hk
   ·exact Jfl D d h
  ·simp at h
theorem Jdl {d:Nd} {D:List Nd} (hk:d.K=2):seenOf (d::D)=(d::D).take (dirsN ((d::D).take (headN (d::D))))∧1≤dirsN ((d::D).take (headN (d::D))):=by
 unfold seenOf;simp only;rw [if_neg (by omega),if_pos hk,List.take_take,Nat.min_eq_left]
 ·refine⟨rfl,?_⟩
  rw [headN,if_pos hk,List.take_succ_cons,dirsN];split<;>omega
 ·refine Nat.le_trans (Jkv _) ?_
  rw [List.length_take];omega
theorem Jen (Q:List Nd):∀d∈seenOf Q,d∈Q:=fun d hd=>by
 unfold seenOf at hd;split at hd
 ·cases hd
 ·split at hd
  ·cases hd
  ·split at hd
   ·exact List.mem_of_mem_take (List.mem_of_mem_take hd)
   ·exact List.mem_of_mem_take hd
theorem Jnk {d:Nd} (h:oneB d=true):d.K=1∨d.K=2∨d.K=3∨d.K=4:=by
 unfold oneB at h;split at h
 ·exact .inl ‹_›
 split at h
 ·exact .inr (.inl ‹_›)
 split at h
 ·exact .inr (.inr (.inl ‹_›))
 split at h
 ·exact .inr (.inr (.inr ‹_›))
 cases h

theorem Jgo {R:List Nd}:∀(L:List Nd) (o:Nat),(∀i:Nat,i<L.length→R[o+i]?=L[i]?)→Ats R ((List.range' o L.length).map fun k=>(k,0)) L
 |[],o,_=>by rw [List.length_nil,List.range'_zero,List.map_nil];trivial
 |x::L,o,h=>by
  rw [List.length_cons,List.range'_succ,List.map_cons];refine⟨⟨x,by simpa using h 0 (by simp),by rw [Jdf];rfl⟩,Jgo L (o+1) fun i hi=>?_⟩;have:=h (i+1) (by rw [List.length_cons];omega);rw [List.getElem?_cons_succ] at this;rw [←this];congr 1;omega
theorem Ji1 (R:List Nd):Ats R (roots R.length) R:=by
 unfold roots;rw [List.range_eq_range'];exact Jgo R 0 fun i _=>by rw [Nat.zero_add]
theorem Jqh (n:Nat):Up (roots n):=by
 unfold Up roots;rw [List.map_map,show (Prod.fst ∘ fun k:Nat=>(k,0))=id from rfl,List.map_id];exact List.pairwise_lt_range
theorem Jk9:∀{R:List Nd},(∀t∈R,t.K=2)→headN R=R.length
 |[],_=>rfl
 |x::R,h=>by rw [headN,if_pos (h x (List.mem_cons_self ..)),Jk9 fun t ht=>h t (List.mem_cons_of_mem _ ht),List.length_cons]
theorem Jic {R:List Nd} (hk:∀t∈R,t.K=2):rootP (tabs R)=(roots R.length).take (dirsN R):=by
 unfold rootP;rw [Jbo,Jdu (Ji1 R),Jk9 hk,List.take_length]
theorem Jli {R:List Nd} (hk:∀t∈R,t.K=2):Ats R (rootP (tabs R)) (R.take (dirsN R)):=by
 rw [Jic hk];exact (Ji1 R).take _
theorem Jmt {R:List Nd}:Up (rootP (tabs R)):=by
 unfold rootP;exact (Jqh _).take _
theorem StkOk.stkM {w:World} {A:Option Addr} {c:Nat} {L:List (Nat×Int)} {T:List Nd} (h:StkOk w A c L T):StkM w A L (tabs T.reverse):=⟨h.slc.rows,by rw [Jbo,List.length_reverse,h.len],fun k x E h1 h2=>by
  obtain⟨_,t,ht,hb⟩:=h.brs k x h1;have hk:k<T.length:=by rw [←h.len];exact (List.getElem?_eq_some_iff.1 h1).1
  have h3:T.reverse[k]?=some t:=by rw [List.getElem?_reverse hk];exact ht
  rw [Jem h3] at h2;obtain rfl:=Option.some.inj h2;exact hb⟩
def Saw (R:List Nd) (P:List (Nat×Nat)) (D:List Nd) (s:ByteArray) (Q':List Nd) (w:World) (en:Ending) (w':World):Prop:=
 ((seenOf Q'=[]∧en= .returned (.tuple #[foundV 0 0 0 none 0 0,.bool false]))∨
  (∃x d,seenOf Q'=[d]∧At R x d∧(d.K=1∨d.K=3)∧Top P D s x∧en= .returned (.tuple #[foundV d.K (x.1:Int) (x.2:Int) none 0 0,.bool true]))∨
  (∃x d Q A c,(seenOf Q')[0]?=some d∧At R x d∧d.K=2∧Top P D s x∧Ats R Q (seenOf Q')∧Up Q∧Q[0]?=some x∧(∀d∈seenOf Q',d.K=2)∧
     en= .returned (.tuple #[foundV d.K (x.1:Int) (x.2:Int) A Q.length c,.bool true])∧Plc w' w'.heap.size A Q∧Q.length≤c))∧Below w.heap.size w w'
theorem Jqi {R:List Nd} (hall:∀t∈R,allB t=true) {P:List (Nat×Nat)} {D:List Nd} (hD:Ats R P D) (hU:Up P) {s:ByteArray} {Q':List Nd} (hQ:EntN s D Q')
  (A:Option Addr) (c:Nat) (ad:Int) (L:List (Nat×Int)) (Ap:Option Addr) (cp:Nat) (w:World) (h:StkM w A L (tabs R)) (hp:Plc w w.heap.size Ap P) (hlp:P.length≤1000):
  Calls prog 29 #[stkV A L.length c ad,.slice Ap P.length cp,.string s] w (Saw R P D s Q' w):=by
 refine (Je5 A c ad L (tabs R) Ap cp P s w h hp hlp hD.all (Jkm hall) Jm5).mono ?_;rintro en w' ⟨Q,hE,hO,hb⟩;obtain⟨j1,j2,j3,j4⟩:=join hall hD hE hQ;refine⟨?_,hb⟩;rcases hO with⟨h1,rfl⟩ |⟨x,e,h1,h2,h3,rfl⟩ |⟨x,e,A',c',h1,h2,h3,rfl,h4,h5⟩
 ·refine .inl ⟨?_,rfl⟩
  rcases Q' with _ |⟨d,Q'⟩
  ·rfl
  ·rcases Q with _ |⟨x,Q⟩
   ·exact j1.elim
   ·have hk:=h1 x _ rfl j1.1.ent
    have hK:(entOf x.2 d).x.K=d.K:=Jcg d;rw [hK] at hk;have:=Jnk (j1.1.one hall);unfold seenOf;simp only;rw [if_pos (by omega)]
 ·refine .inr (.inl ?_)
  obtain⟨d,g1,g2⟩:=j1.at_ h1;have he:=g2.ent;rw [h2] at he;obtain rfl:=Option.some.inj he;have hK:(entOf x.2 d).x.K=d.K:=Jcg d;rw [hK] at h3 ⊢;refine⟨x,d,?_,g2,h3,j4 x h1,rfl⟩;rcases Q' with _ |⟨d',Q'⟩
  ·simp at g1
  ·obtain rfl:d'=d:=by simpa using g1
   unfold seenOf;simp only;rw [if_neg (by omega),if_neg (by omega)];rfl
 ·refine .inr (.inr ?_)
  obtain⟨d,g1,g2⟩:=j1.at_ h1;have he:=g2.ent;rw [h2] at he;obtain rfl:=Option.some.inj he;have hK:(entOf x.2 d).x.K=d.K:=Jcg d;rw [hK] at h3 ⊢;rcases Q' with _ |⟨d',Q'⟩
  ·simp at g1
  ·obtain rfl:d'=d:=by simpa using g1
   obtain⟨s1,s2⟩:=Jdl (D:=Q') h3;have s3:=Jdu j1;have s4:Ats R (Q.take (oneN (tabs R) Q)) (seenOf (d'::Q')):=by rw [s1,s3];exact j1.take _
   have s5:1≤oneN (tabs R) Q:=by rw [s3];exact s2
   have s6:(Q.take (oneN (tabs R) Q))[0]?=some x:=by rw [List.getElem?_take_of_lt (by omega)];exact h1
   obtain⟨d2,s7,s8⟩:=s4.at_ s6;have hd2:d2=d':=by
    rw [s1,List.getElem?_take_of_lt (by omega)] at s7;simpa using s7.symm
   subst hd2;refine⟨x,d2,_,A',c',s7,g2,h3,j4 x h1,s4,(hU.sub j2).take _,s6,fun q hq=>?_,rfl,h4,h5⟩;unfold seenOf at hq;simp only at hq;rw [if_neg (by omega),if_pos h3] at hq;exact Jfl _ q (List.mem_of_mem_take hq)
theorem Ats.right {R:List Nd} {P:List (Nat×Nat)} {D:List Nd} (h:Ats R P D) (hall:∀t∈R,allB t=true):∀d∈D,Asc d.N∧d.N.length=d.I.length:=fun d hd=>by
 obtain⟨x,_,hx⟩:=h.mem d hd;obtain⟨h1,h2,_⟩:=Jbd (hx.one hall);exact⟨h1,h2⟩
theorem Jg5 {D:List Nd} (hD:∀d∈D,Asc d.N∧d.N.length=d.I.length) {s:ByteArray} {Q':List Nd} (hQ:EntN s D Q') (A:Option Addr) (c:Nat) (rs:Nat→Raw) (w:World) (hT:Trees w w.heap.size A D rs) (hl:D.length≤1000):
  Calls prog 75 #[.slice A D.length c,.string s] w (TreesOut (seenOf Q') w):=
 (Jjk A c D rs s w hT hl fun x hx=>(hD x hx).2).mono fun e w' ⟨Q,h1,h2,h3⟩=>by
  obtain rfl:=EntN.uniq (fun d hd=>(hD d hd).1) h1 hQ;exact h3
theorem Jme {s:ByteArray} {D Q':List Nd} (hQ:EntN s D Q') {k:Nat} (hk:∀d∈D,depth d<k+1):∀d∈seenOf Q',depth d<k:=fun d hd=>by
 have key:∀{D Q':List Nd},EntN s D Q'→∀q∈Q',∃d∈D,∃i:Nat,d.I[i]?=some q:=by
  intro D
  induction D with
  |nil=>intro Q' h q hq;have h':Q'=[]:=h;subst h';cases hq
  |cons c D ih=>
   rintro Q' ⟨o,Q1,hh,rfl,hr⟩ q hq;rcases List.mem_append.1 hq with hq |hq
   ·rcases hh with⟨i,y,a1,a2,rfl⟩ |⟨rfl,a1⟩
    ·have hq':q=y:=by simpa using hq
     subst hq';exact⟨c,List.mem_cons_self ..,i,a2⟩
    ·simp at hq
   ·obtain⟨d,h1,h2⟩:=ih hr q hq
    exact⟨d,List.mem_cons_of_mem _ h1,h2⟩
 obtain⟨c,h1,i,h2⟩:=key hQ d (Jen Q' d hd);have h3:=Jbp h2;have h4:=hk c h1;rw [Ja0] at h4;omega
theorem Jel (Q:List Nd):(seenOf Q).length≤Q.length:=by
 unfold seenOf;split
 ·exact Nat.le_refl _
 ·split
  ·exact Nat.zero_le _
  ·split
   ·rw [List.length_take,List.length_take];omega
   ·rw [List.length_take];omega
theorem EntN.len {s:ByteArray}:∀{D Q:List Nd},EntN s D Q→Q.length≤D.length
 |[],Q,h=>by
  have h':Q=[]:=h;subst h';exact Nat.le_refl _
 |c::D,Q,⟨o,Q1,hh,hq,hr⟩=>by
  have:=EntN.len hr;subst hq;rw [List.length_append,List.length_cons];rcases o with _ |o<;>simp<;>omega
end Go.Proofs.YtkjpgheealfedaaGreatDoor.seen
