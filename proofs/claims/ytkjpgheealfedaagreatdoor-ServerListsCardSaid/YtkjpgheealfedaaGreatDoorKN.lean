import Derived.Test.YtkjpgheealfedaaGreatDoorKM
import Derived.Test.YtkjpgheealfedaaGreatDoorJH2
import Derived.Test.YtkjpgheealfedaaGreatDoorJU2
set_option maxHeartbeats 6400000
set_option maxRecDepth 100000
open Go.Lib (hid)
open Go.Proofs.Tryz
namespace Go.Proofs.YtkjpgheealfedaaGreatDoor.svr
open Go.RowKit words ext name tre stk Go.Proofs.YtkjpgheealfedaaGreatDoor.seen

def TypB (w:World) (A:Option Addr):Prop:=∀b off,A=some ⟨b,off,none⟩→∃cs,w.heap[b]?=some (.cells cs 33 (0,0))
theorem TypB.later {w w':World} {A:Option Addr} (h:TypB w A) (hb:Below w.heap.size w w'):TypB w' A:=fun b off e=>by
 obtain⟨cs,h1⟩:=h b off e;exact⟨cs,(hb.block b (lt_of_some h1)).trans h1⟩
theorem Jsg {w:World} {B n c:Nat} {A:Option Addr} {xs:List Value} (h:w.ownsRow B 33 2 (.slice A n c) n xs):TypB w A:=fun b off e=>by
 rcases h.2 with⟨h1,_⟩ |⟨g,cap,cur,h1,_,h2,_⟩
 ·injection h1 with h1 _ _
  rw [e] at h1;cases h1
 ·injection h1 with h1 _ _
  rw [e] at h1;injection h1 with h1;injection h1 with h1 _ _;rw [h1];exact⟨_,h2⟩
def PlcTyp (P:List (Nat×Nat)) (w:World) (e:Ending) (w':World):Prop:=∃A c,e= .returned (.slice A P.length c)∧Plc w' w'.heap.size A P∧P.length≤c∧TypB w' A∧Below w.heap.size w w'
theorem Jp4 (A:Option Addr) (c:Nat) (ad:Int) (L:List (Nat×Int)) (Es:List (List Ent)) (w:World) (h:StkM w A L Es) (hl:L.length≤64) (hin:∀E∈Es,∃e,E[0]?=some e):
  Calls prog 21 #[stkV A L.length c ad] w (PlcTyp (rootP Es) w):=by
 obtain⟨W1,hW1⟩:=words.nm (w.alloc (.cells #[.slice A L.length c,.int .i64 ad] 29));have hb1:=words.b1 hW1;have hs1:W1.heap[w.heap.size]?=some (.cells #[.slice A L.length c,.int .i64 ad] 29 (0,0)):=by rw [hW1];exact heap_alloc_new w _
 have s0:=Jaa hs1 0;have s1:=Jaa hs1 1;have hent:∀x∈roots Es.length,∃e,entAt Es x=some e:=fun x hx=>by
  unfold roots at hx;obtain⟨k,hk,rfl⟩:=List.mem_map.1 hx;obtain⟨E,hE⟩:∃E,Es[k]?=some E:=⟨_,List.getElem?_eq_getElem (List.mem_range.1 hk)⟩
  obtain⟨e,he⟩:=hin E (List.mem_of_getElem? hE);exact⟨e,by unfold entAt;rw [hE];exact he⟩
 have HEn:=hid hent;have HK:=hid hs1;have HS:=hid (h.later hb1);have HW1:=hid hW1;have HB1:=hid hb1;clear hW1 hb1 hs1 h hin hent;obtain⟨iS,hiS,zS0,zS1,zS2⟩:=info_parts infoSpot;unfold stkV;go_enter func21,ntmps21
 go_upto_region 1 with fail
 rw [←HW1.out];clear HW1;have HC:=hid (show Calls prog 19 #[.agg #[.slice A L.length c,.int .i64 ad]] W1 fun e w'=>e= .returned (.int .i64 (L.length:Int))∧Below W1.heap.size W1 w' from Jcx A L.length c ad W1);go_wp2_with fail
 refine HC.out.mono ?_;rintro e w2 ⟨rfl,hb2⟩;have HB2:=hid hb2;have HO2:Hid (w2.ownsRow W1.heap.size 33 2 (.slice none 0 0) 0 ((roots 0).flatMap spC)):=hid (World.ownsRow_nil _ _ _ _);clear hb2 HC s0 s1;go_wp2_with fail
 go_loopw [7,3] (fun v v3 wr=>∃k:Nat,v= .int .i64 (k:Int)∧k≤L.length∧Hid (wr.ownsRow W1.heap.size 33 2 v3 k ((roots k).flatMap spC))∧Hid (Below W1.heap.size W1 wr)) (fun v _ _=>L.length - (intOf v).toNat)
 case atStart=>exact⟨0,rfl,Nat.zero_le _,HO2,HB2⟩
 case round=>
  clear HO2 HB2;obtain⟨k,rfl,hk,HO,HB⟩:=hrel;obtain⟨Ar,cr,rfl,hcr,_⟩:=own_facts HO.out;by_cases hlt:k<L.length
  ·obtain⟨Wc,hWc⟩:=words.nm (wr.alloc (.cells #[.int .i64 (k:Int),.int .i64 0] 33))
   have hbc:Below wr.heap.size wr Wc:=words.b1 hWc;have HNc:Hid (∀(i:Nat) (u:Value),([.int .i64 (k:Int),.int .i64 0]:List Value)[i]?=some u→Wc.cell? ((⟨wr.heap.size,0,none⟩:Addr).add i)=some u):=hid fun i u hi=>by rw [hWc,Jar];simpa using hi
   have HOc:=hid (ownL HO.out hbc);have HBc:=hid (HB.out.trans (hbc.mono HB.out.size));have HWc:=hid hWc.symm;clear hWc hbc HO HB;go_wp2_with (at_builtin;rw [HWc.out];refine wpList_append_own _ rfl (.tmp 10) (.tmp 13) 35 rfl W1.heap.size 33 iS _ 2 16 underlying35 hiS zS0 zS1 zS2 rfl (by omega) (.slice Ar k cr) k ((roots k).flatMap spC) rfl HOc.out ⟨wr.heap.size,0,none⟩ 1 1 [.int .i64 (k:Int),.int .i64 0] rfl rfl HNc.out (by simp [Value.oneCell']) (by simp only [maxLen];omega) (by omega) HBc.out.size ?_;intro v3' wq hownq hgrowq hnilq)
   have HBq:=hid (Jad HBc.out HOc.out hgrowq (Nat.le_refl _) (Nat.le_refl _));have HOq:Hid (wq.ownsRow W1.heap.size 33 2 v3' (k+1) ((roots (k+1)).flatMap spC)):=hid (by rw [Jgs,List.flatMap_append];exact hownq);clear hownq hgrowq hnilq;go_roundw
   case rel=>exact⟨k+1,by go_num,by omega,HOq,HBq⟩
   case measure=>simp [intOf];omega
  ·obtain rfl:k=L.length:=by omega
   have hSr:=HS.out.later HB.out;have hP:=Jh0 HO.out;have hes:=hSr.es;have hkr:=(HB.out.block _ (lt_of_some HK.out)).trans HK.out;have s0:=Jaa hkr 0;have s1:=Jaa hkr 1;have h1:=Jga A c ad L Es Ar cr (roots L.length) wr hSr hP (by rw [Jal];exact hcr) (by rw [Jal];omega) (by rw [←hes];exact HEn.out);rw [Jal] at h1;unfold stkV at h1;have HC:=hid h1;have HP:=hid hP;have HE:=hid hes;have HFr:Hid (TypB wr Ar):=hid (Jsg HO.out);have HBw:=hid (HB1.out.trans (HB.out.mono HB1.out.size));clear h1 hSr hP hes hkr HO HB;go_wp2_with fail
   refine HC.out.mono ?_;rintro e w5 ⟨rfl,hb5⟩;have HF:Hid (PlcTyp (rootP Es) w (.returned (.slice Ar (oneN Es (roots L.length)) cr)) w5):=hid ⟨Ar,cr,by rw [Ja5,HE.out],by
     unfold rootP;rw [HE.out];exact ((HP.out.keep hb5).more hb5.size).take _,by
     rw [Ja5,HE.out];have:=Jdh Es (roots L.length);rw [Jal] at this;omega,HFr.out.later hb5,HBw.out.trans (hb5.mono HBw.out.size)⟩
   clear hb5 HC s0 s1;go_wp2_with fail
   go_ret
   exact HF.out
end Go.Proofs.YtkjpgheealfedaaGreatDoor.svr

namespace Go.Proofs.YtkjpgheealfedaaGreatDoor.svr
open Go.RowKit words ext name tre stk Go.Proofs.YtkjpgheealfedaaGreatDoor.seen wlk uni

def slb:ByteArray:=⟨#[47,98]⟩
def lk:Nd:=tre.dirN [ab] [linkN slb]
theorem Jtr (r:Raw):ndV (linkN slb) r= .agg #[.int .i64 3,.bool false,.slice r.An 0 r.cn,.slice r.Ai 0 r.ci,.int .i64 0,.slice r.Ae 0 r.ce,.string ⟨#[47,98]⟩]:=rfl
theorem lk_v (r:Raw):ndV lk r= .agg #[.int .i64 2,.bool false,.slice r.An 1 r.cn,.slice r.Ai 1 r.ci,.int .i64 0,.slice r.Ae 0 r.ce,.string ⟨#[]⟩]:=rfl
theorem Jsi:∀t∈[lk],depth t≤1000∧(treeB t=true→countC t=(count t:Int)∧count t≤4096):=fun t ht=>by
 rw [List.mem_singleton.1 ht];exact⟨by decide+kernel,fun _=>⟨by decide+kernel,by decide+kernel⟩⟩
theorem Jqk:∀t∈[lk],treeB t=true:=fun t ht=>by
 rw [List.mem_singleton.1 ht];decide+kernel
theorem Jq5:∀t∈[lk],allB t=true:=fun t ht=>by
 rw [List.mem_singleton.1 ht];decide+kernel
theorem Jj8:∀t∈[lk],t.K=2:=fun t ht=>by
 rw [List.mem_singleton.1 ht];rfl
theorem Jss:∀t∈[lk],depth t<100:=fun t ht=>by
 rw [List.mem_singleton.1 ht];decide+kernel
theorem Js4:∀(x:Nat×Nat) (d:Nd),seen.At [lk] x d→d.N.length≤4096:=fun x d h=>by
 obtain⟨t,ht,hd⟩:=h;have htm:t=lk:=List.mem_singleton.1 (List.mem_of_getElem? ht);subst htm;have h1:(preN lk).all (fun d=>decide (d.N.length≤4096))=true:=by decide+kernel
 exact of_decide_eq_true (List.all_eq_true.1 h1 d (List.mem_of_getElem? hd))
theorem Jrh:Goes [lk] true ⟨#[47]⟩ (.ok [] [lk]):= .inr ⟨[],by decide+kernel,.done rfl⟩
theorem Jmz:heap.Merged (mrg.rowsOf [lk]) [(ab,0)]:=⟨List.Perm.refl _,List.Pairwise.cons (fun x hx=>by cases hx) List.Pairwise.nil⟩
theorem Jnr {El:List (ByteArray×Int)} (h:Listed [lk] El):El=[(ab,3)]:=by
 obtain⟨out,hm,hk⟩:=h;obtain rfl:=hm.eq Jmz;obtain⟨d,i,y,E',h1,h2,h3,h4,h5⟩:=hk;have h5':E'=[]:=h5;subst h5';have h1':some lk=some d:=h1;injection h1' with h1';subst h1';have hi:i=0:=by
  have:=(List.getElem?_eq_some_iff.1 h3).1;have h9:lk.I.length=1:=rfl;omega
 subst hi;have h3':some (linkN slb)=some y:=h3;injection h3' with h3';subst h3';rw [h4];rfl
theorem Jj3:rootP (tabs [lk])=[(0,0)]:=by rw [Jic Jj8];rfl
theorem Js3:Ats [lk] [(0,0)] [lk]:=by
 have h:=Jli Jj8;rw [Jj3] at h;exact h
theorem Jto:Up [(0,0)]:=by rw [←Jj3];exact Jmt
theorem Jti:EntN ab [lk] [linkN slb]:=⟨some (linkN slb),[],.inl ⟨0,linkN slb,rfl,rfl,rfl⟩,rfl,rfl⟩
theorem Jj1:seenOf [linkN slb]=[linkN slb]:=rfl
structure LkM (w:World) (A:Option Addr) (L:List (Nat×Int)):Prop where
 stk:StkM w A L (tabs [lk])
 len:L.length=1
theorem LkM.later {w w':World} {A:Option Addr} {L:List (Nat×Int)} (h:LkM w A L) (hb:Below w.heap.size w w'):LkM w' A L:=⟨h.stk.later hb,h.len⟩
theorem Jol (w:World) (A:Option Addr) (c:Nat) (L:List (Nat×Int)) (h:LkM w A L):Calls prog 21 #[.agg #[.slice A 1 c,.int .i64 1]] w (PlcTyp [(0,0)] w):=by
 have h1:=Jp4 A c 1 L (tabs [lk]) w h.stk (by rw [h.len];omega) Jk5;rw [Jj3,h.len] at h1;exact h1
theorem Joa {w:World} {A:Option Addr} {c:Nat} {L:List (Nat×Int)} (h:LkM w A L) {Ap:Option Addr} {cp:Nat} (hp:Plc w w.heap.size Ap [(0,0)]):Seeing w A 1 c 1 Ap 1 cp ⟨#[97]⟩ true 3 0 1 [] ⟨#[47,98]⟩:=by
 refine⟨fun w' hb=>?_,fun _=>?_,fun hn=>absurd rfl hn⟩
 ·have h1:=Jqi Jq5 Js3 Jto Jti A c 1 L Ap cp w' (h.stk.later hb) ((hp.keep hb).more hb.size) (by decide)
  rw [h.len] at h1;refine Calls.mono h1 ?_;rintro e w'' ⟨ho,hb2⟩;rcases ho with⟨hs,_⟩ |⟨x,d,hs,_,_,ht,rfl⟩ |⟨x,d,Q,A',c',hs,_,hk,_⟩
  ·rw [Jj1] at hs;cases hs
  ·rw [Jj1] at hs
   obtain rfl:linkN slb=d:=by simpa using hs
   obtain⟨k,p,y,i,h1,rfl,h3,h4,_⟩:=ht;have hk:k=0:=by
    have:=(List.getElem?_eq_some_iff.1 h3).1;simpa using this
   subst hk;obtain rfl:lk=y:=by simpa using h3
   obtain rfl:((0,0):Nat×Nat)=p:=by simpa using h1
   have hi:i=0:=by
    have:=(List.getElem?_eq_some_iff.1 h4).1;have h9:lk.N.length=1:=rfl;omega
   subst hi;exact⟨none,0,rfl,dca.Sp.nil _ _ _,hb2⟩
  ·rw [Jj1] at hs
   obtain rfl:linkN slb=d:=by simpa using hs
   cases hk
 ·obtain⟨y,hy⟩:∃y,L[0]?=some y:=⟨_,List.getElem?_eq_getElem (by rw [h.len];decide)⟩
  have hE:(tabs [lk])[0]?=some (flatN 0 lk):=Jem rfl;obtain⟨e,he,hT⟩:∃e,(flatN 0 lk)[1]?=some e∧e.x.T=slb:=⟨_,rfl,rfl⟩
  refine⟨y.1,fun w' hb=>Jda A 1 c 0 1 L y w' (h.stk.later hb).rows h.len hy,fun w' hb=>(Jfv y.1 1 _ e w' ((h.stk.later hb).brs 0 y _ hy hE) he).mono fun _ _ ⟨h1,h2⟩=>⟨by rw [h1,hT];rfl,h2⟩⟩
theorem Jp6 {v w:World} {A:Option Addr} {L:List (Nat×Int)} (h:LkM v A L) (hb:Below v.heap.size v w) (c:Nat) (mx:Int) (hm:v.cell? ⟨0,0,none⟩=some (.int .i64 mx)):Lists w v.heap.size A L.length c 1 ⟨#[47]⟩ [(ab,3)]:=fun w' hk=>by
 have hb':=hb.trans (hk.below hb.size);refine (Jiv Jq5 Jj8 Jss (by decide) Js4 A c 1 L mx ⟨#[47]⟩ w' (h.stk.later hb') (Jae hm hb') (by decide) Jrh).mono ?_;rintro e w2 ⟨h1 |⟨ns,E,El,Al,cl,hO,_,_,_,_,_,_,_,hl,_,rfl,ho⟩,hb2⟩
 ·exact absurd (show lsE (.ok [] [lk])=0 from rfl) h1.1
 ·injection hO with h2 h3
  subst h2 h3;obtain rfl:=Jnr hl;exact⟨_,_,Al,cl,rfl,ho,hb2⟩
theorem Jro {w W:World} {x:Nd} {rx:Raw} (hW:W=w.alloc (.cells (rawCells x rx) 70)) (hx:NdAt w w.heap.size x rx):Trees W W.heap.size (some ⟨w.heap.size,0,none⟩) [x] (fun _=>rx):=by
 have hb:=words.b1 hW;have hk:W.heap[w.heap.size]?=some (.cells (rawCells x rx) 70 (0,0)):=by rw [hW];exact heap_alloc_new w _
 intro i z hz;rcases i with _ |i
 ·obtain rfl:x=z:=by simpa using hz
  refine⟨⟨_,0,rfl,lt_of_some hk,fun j v hj=>?_⟩,hx.later hb⟩;rw [Jaa hk,show 0+0*7+j=j by omega];exact hj
 ·simp at hz
end Go.Proofs.YtkjpgheealfedaaGreatDoor.svr

namespace Go.Proofs.YtkjpgheealfedaaGreatDoor.svr
open Go.RowKit words lru Go.Proofs.YtkjpgheealfedaaGreatDoor.seen

def kA:ByteArray:=dca.childB ⟨#[47]⟩ ⟨#[97]⟩
def eV (A:Option Addr) (c:Nat):lrd.Ent:=⟨0,true,3,0,1,A,0,c,⟨#[47,98]⟩⟩
def eC (A:Option Addr) (c:Nat):List Value:=[.int .i64 0,.bool true,.int .i64 3,.int .i64 0,.int .i64 1,.slice A 0 c,.string ⟨#[47,98]⟩]
def zC:Array Value:=#[.int .i64 0,.bool false,.int .i64 0,.int .i64 0,.int .i64 0,.slice none 0 0,.string ⟨#[]⟩]
theorem Jrn (k:ByteArray) (v:lrd.Ent):lrd.gotB [(k,v)] k=true∧lrd.gotI [(k,v)] k=v∧getL [(k,v)] k=[(k,v)]:=by
 have h:val [(k,v)] k=some v:=by simp [val]
 refine⟨by unfold lrd.gotB;rw [h];rfl,by unfold lrd.gotI;rw [h];rfl,?_⟩;unfold getL;rw [h];simp [rest]
theorem Jri (k:ByteArray) (v:lrd.Ent):seeL [] 2 k v=[(k,v)]:=by
 unfold seeL;rw [if_neg (fun h=>by cases h.1)];exact (Jhx (κ:=ByteArray) (ν:=lrd.Ent) (L:=[]) (k:=k) (fun p hp=>by cases hp) (by simp) v k).1
structure Spk (v1 w10:World) (A:Option Addr) (c:Nat) (L:List (Nat×Int)) (b:Bk) (gs gs2:List Nat) (g i gB:Nat):Prop where
 lkm:LkM v1 A L
 bel:Below v1.heap.size v1 w10
 len:gs.length=2
 of:i=sha.ofF kA 2
 at_:gs[i]?=some g
 sv:Sv w10 v1.heap.size b (newD A c L 1 2 2 gs gs2)
 box:w10.heap[gB]?=some (.cells #[.slice A 1 c,.int .i64 1] 29 (0,0))
def dk (A:Option Addr) (c:Nat) (L:List (Nat×Int)) (gs gs2:List Nat) (g i:Nat) (bo:Option Nat) (A2:Option Addr) (c2:Nat) (x:Int):Sd:=
 {newD A c L 1 2 2 gs gs2 with N:=(shd.news gs 2).set i ⟨g,bo,2,[(kA,eV A2 c2)]⟩,x:=x,y:=1}
def Ph (v1:World) (A:Option Addr) (c:Nat) (L:List (Nat×Int)) (b:Bk) (gs gs2:List Nat) (g i:Nat) (W:World):Nat→Prop
 |0=>Sv W v1.heap.size b (newD A c L 1 2 2 gs gs2)
 |k+1=>∃bo A2 c2,Sv W v1.heap.size b (dk A c L gs gs2 g i bo A2 c2 (k:Int))
def Bxz (w10 W:World) (a:Nat):Prop:=w10.heap.size≤a∧W.heap[a]?=some (.cells zC 75 (0,0))
def s7 (W:World) (a:Nat) (A:Option Addr) (c:Nat):World:=((((((W.setCell ⟨a,0,none⟩ (.int .i64 0)).setCell ⟨a,1,none⟩ (.bool true)).setCell ⟨a,2,none⟩ (.int .i64 3)).setCell ⟨a,3,none⟩ (.int .i64 0)).setCell ⟨a,4,none⟩ (.int .i64 1)).setCell ⟨a,5,none⟩ (.slice A 0 c)).setCell ⟨a,6,none⟩ (.string ⟨#[47,98]⟩)
def aZ (W:World):World:=W.alloc (.cells #[.int .i64 0,.bool false,.int .i64 0,.int .i64 0,.int .i64 0,.slice none 0 0,.string ⟨#[]⟩] 75)
theorem Bxz.all {w10 W:World} {a:Nat} (h:Bxz w10 W a):W.cell? ⟨a,0,none⟩=some (.int .i64 0)∧W.cell? ⟨a,1,none⟩=some (.bool false)∧W.cell? ⟨a,2,none⟩=some (.int .i64 0)∧W.cell? ⟨a,3,none⟩=some (.int .i64 0)∧W.cell? ⟨a,4,none⟩=some (.int .i64 0)∧W.cell? ⟨a,5,none⟩=some (.slice none 0 0)∧W.cell? ⟨a,6,none⟩=some (.string ⟨#[]⟩)∧W.frozen? ⟨a,0,none⟩=false∧W.frozen? ⟨a,1,none⟩=false∧W.frozen? ⟨a,2,none⟩=false∧W.frozen? ⟨a,3,none⟩=false∧W.frozen? ⟨a,4,none⟩=false∧W.frozen? ⟨a,5,none⟩=false∧W.frozen? ⟨a,6,none⟩=false:=
 ⟨Jaa h.2 0,Jaa h.2 1,Jaa h.2 2,Jaa h.2 3,Jaa h.2 4,Jaa h.2 5,Jaa h.2 6,Jab h.2 0,Jab h.2 1,Jab h.2 2,Jab h.2 3,Jab h.2 4,Jab h.2 5,Jab h.2 6⟩
structure Q (v1 w10:World) (A:Option Addr) (c:Nat) (L:List (Nat×Int)) (b:Bk) (gs gs2:List Nat) (g i:Nat) (k:Nat) (o4 o5:Option Nat) (pl:Option (Option Addr)) (W:World):Prop where
 ph:Ph v1 A c L b gs gs2 g i W k
 kept:Kept dca.DS v1.heap.size w10 W
 b4:∀a,o4=some a→Bxz w10 W a
 b5:∀a,o5=some a→Bxz w10 W a
 ne:∀a a',o4=some a→o5=some a'→a≠a'
 plc:∀Ap,pl=some Ap→Plc W W.heap.size Ap [(0,0)]∧TypB W Ap
section
variable {v1 w10:World} {A:Option Addr} {c:Nat} {L:List (Nat×Int)} {b:Bk} {gs gs2:List Nat} {g i gB k:Nat} {o4 o5:Option Nat} {pl:Option (Option Addr)} {W W':World}
theorem Ph.later (h:Ph v1 A c L b gs gs2 g i W k) (hb:Below W.heap.size W W'):Ph v1 A c L b gs gs2 g i W' k:=by
 rcases k with _ |k
 ·exact Sv.later h hb
 ·obtain⟨bo,A2,c2,h⟩:=h
  exact⟨bo,A2,c2,h.later hb⟩
theorem Bxz.kept {S:TypeId→Prop} {B a:Nat} (h:Bxz w10 W a) (hk:Kept S B W W') (hS:¬S 75):Bxz w10 W' a:=⟨h.1,hk.blk h.2 hS⟩
theorem Q.later (h:Q v1 w10 A c L b gs gs2 g i k o4 o5 pl W) (hb:Below W.heap.size W W'):Q v1 w10 A c L b gs gs2 g i k o4 o5 pl W':=by
 have hk:Kept (fun _=>False) 0 W W':=Kept.of_below hb _ 0;exact⟨h.ph.later hb,h.kept.trans (Kept.of_below hb _ _),fun a e=>(h.b4 a e).kept hk (fun h=>h),fun a e=>(h.b5 a e).kept hk (fun h=>h),h.ne,fun Ap e=>⟨((h.plc Ap e).1.keep hb).more hb.size,(h.plc Ap e).2.later hb⟩⟩
theorem Q.alloc4 (h:Q v1 w10 A c L b gs gs2 g i k none o5 pl W) (hW:W'=W.alloc (.cells zC 75)):Q v1 w10 A c L b gs gs2 g i k (some W.heap.size) o5 pl W':=by
 have hb:Below W.heap.size W W':=words.b1 hW;have h':=h.later hb;exact⟨h'.ph,h'.kept,fun a e=>by injection e with e;subst e;exact⟨h.kept.size,by rw [hW];exact heap_alloc_new W _⟩,h'.b5,fun a a' e e'=>by injection e with e;subst e;exact (Nat.ne_of_lt (lt_of_some (h.b5 a' e').2)).symm,h'.plc⟩
theorem Q.alloc5 (h:Q v1 w10 A c L b gs gs2 g i k o4 none pl W) (hW:W'=W.alloc (.cells zC 75)):Q v1 w10 A c L b gs gs2 g i k o4 (some W.heap.size) pl W':=by
 have hb:Below W.heap.size W W':=words.b1 hW;have h':=h.later hb;exact⟨h'.ph,h'.kept,h'.b4,fun a e=>by injection e with e;subst e;exact⟨h.kept.size,by rw [hW];exact heap_alloc_new W _⟩,fun a a' e e'=>by injection e' with e';subst e';exact Nat.ne_of_lt (lt_of_some (h.b4 a e).2),h'.plc⟩
theorem Q.below (h:Q v1 w10 A c L b gs gs2 g i k o4 o5 pl W) (x:Spk v1 w10 A c L b gs gs2 g i gB):Below v1.heap.size v1 W:=x.bel.trans (h.kept.below x.bel.size)
theorem Q.lk (h:Q v1 w10 A c L b gs gs2 g i k o4 o5 pl W) (x:Spk v1 w10 A c L b gs gs2 g i gB):LkM W A L:=x.lkm.later (h.below x)
theorem Q.cells (h:Q v1 w10 A c L b gs gs2 g i k o4 o5 pl W) (x:Spk v1 w10 A c L b gs gs2 g i gB):W.cell? ⟨gB,0,none⟩=some (.slice A 1 c)∧W.cell? ⟨gB,1,none⟩=some (.int .i64 1):=by
 have:=h.kept.blk x.box (by unfold dca.DS;decide);exact⟨Jaa this 0,Jaa this 1⟩
theorem Q.root (h:Q v1 w10 A c L b gs gs2 g i k o4 o5 pl W) (x:Spk v1 w10 A c L b gs gs2 g i gB):
  Calls prog 21 #[.agg #[.slice A 1 c,.int .i64 1]] W fun e W'=>∃Ap cp,e= .returned (.slice Ap 1 cp)∧Q v1 w10 A c L b gs gs2 g i k o4 o5 (some Ap) W':=by
 refine (Jol W A c L (h.lk x)).mono ?_;rintro e W' ⟨Ap,cp,rfl,h1,_,h2,hb⟩;have h':=h.later hb;exact⟨Ap,cp,rfl,h'.ph,h'.kept,h'.b4,h'.b5,h'.ne,fun Ap' e=>by injection e with e;subst e;exact⟨h1,h2⟩⟩
theorem Jqf {Ap:Option Addr} {P:List (Nat×Nat)} (h:Plc W W.heap.size Ap P) (ht:TypB W Ap) {B:Nat} (hk:Kept dca.DS B W W'):Plc W' W'.heap.size Ap P:=fun j x hx=>by
 obtain⟨bb,off,h1,h2,h3,h4⟩:=h j x hx;obtain⟨cs,h5⟩:=ht bb off h1;have h6:=(hk.blk h5 (by unfold dca.DS;decide)).trans h5.symm;exact⟨bb,off,h1,Nat.lt_of_lt_of_le h2 hk.size,(World.cell?_of_block h6).trans h3,(World.cell?_of_block h6).trans h4⟩
theorem Q.kept' {k':Nat} (h:Q v1 w10 A c L b gs gs2 g i k o4 o5 pl W) (hk:Kept dca.DS v1.heap.size W W') (hp:Ph v1 A c L b gs gs2 g i W' k'):Q v1 w10 A c L b gs gs2 g i k' o4 o5 none W':=
 ⟨hp,h.kept.trans hk,fun a e=>(h.b4 a e).kept hk (by unfold dca.DS;decide),fun a e=>(h.b5 a e).kept hk (by unfold dca.DS;decide),h.ne,fun _ e=>by cases e⟩
theorem Jjp {gs:List Nat} {r i g:Nat} (h:gs[i]?=some g):(shd.news gs r)[i]?=some ⟨g,none,r,[]⟩:=by unfold shd.news;rw [List.getElem?_map,h];rfl
theorem Jfg (gs:List Nat) (r:Nat):(shd.news gs r).length=gs.length:=by unfold shd.news;rw [List.length_map]
abbrev seeArgs (b:Bk) (A:Option Addr) (c:Nat) (Ap:Option Addr) (cp:Nat):Array Value:=#[.pointer (some ⟨b.v,0,none⟩),.agg #[.slice A 1 c,.int .i64 1],.int .i64 0,.string ⟨#[47]⟩,.slice Ap 1 cp,.string ⟨#[97]⟩]
theorem Q.see1 {Ap:Option Addr} (h:Q v1 w10 A c L b gs gs2 g i 0 o4 o5 (some Ap) W) (x:Spk v1 w10 A c L b gs gs2 g i gB) (cp:Nat):
  Calls prog 20 (seeArgs b A c Ap cp) W fun e W'=>∃Af cf,e= .returned (.agg (eC Af cf).toArray)∧Q v1 w10 A c L b gs gs2 g i 1 o4 o5 none W':=by
 have hn:(shd.news gs 2).length=2:=by rw [Jfg,x.len]
 have hs:Sv W v1.heap.size b (newD A c L 1 2 2 gs gs2):=h.ph;obtain⟨hp,ht⟩:=h.plc Ap rfl;have hbW:=h.below x;refine (Jpm (B:=v1.heap.size) (i:=i) (c:=⟨g,none,2,[]⟩) (k:=kA) (dir:=⟨#[47]⟩) (s:=⟨#[97]⟩) (ep:=0) (A:=A) (n:=1) (ca:=c) (ad:=1) (Ap:=Ap) (np:=1) (cp:=cp) (P:=[]) hs hbW.size rfl (show 0<(shd.news gs 2).length by omega) (show (shd.news gs 2).length≤256 by omega) (show i=sha.ofF kA (shd.news gs 2).length by rw [hn];exact x.of) (Jjp x.at_) (by simp) (by decide) (by decide) ⟨List.nodup_nil,Nat.zero_le _,(show 1≤2 by decide)⟩ (show (0:Int)≤0∧(0:Int)≤1000000 by decide) (.inl rfl) (th:=true) (kd:=3) (lv:=0) (nd:=1) (tg:=⟨#[47,98]⟩) (by decide) (fun w' hk=>Joa (x.lkm.later (hbW.trans (hk.below hbW.size))) (Jqf hp ht hk))).mono ?_;rintro e W' ⟨Af,cf,bo,A2,c2,rfl,_,_,hs',hk⟩;refine⟨Af,cf,rfl,h.kept' hk ⟨bo,A2,c2,?_⟩⟩;rw [show seeL ([]:List (ByteArray×lrd.Ent)) 2 kA ⟨0,true,3,0,1,A2,([]:List (Int×Int)).length,c2,⟨#[47,98]⟩⟩=[(kA,eV A2 c2)] from Jri _ _] at hs';exact hs'
theorem Q.see2 {Ap:Option Addr} (h:Q v1 w10 A c L b gs gs2 g i 1 o4 o5 (some Ap) W) (x:Spk v1 w10 A c L b gs gs2 g i gB) (cp:Nat):
  Calls prog 20 (seeArgs b A c Ap cp) W fun e W'=>∃Af cf,e= .returned (.agg (eC Af cf).toArray)∧Q v1 w10 A c L b gs gs2 g i 2 o4 o5 none W':=by
 obtain⟨bo,A2,c2,hs⟩:=h.ph;have hn:((shd.news gs 2).set i ⟨g,bo,2,[(kA,eV A2 c2)]⟩).length=2:=by rw [List.length_set,Jfg,x.len]
 have hlt:i<(shd.news gs 2).length:=(List.getElem?_eq_some_iff.1 (Jjp (r:=2) x.at_)).1;have hbW:=h.below x;obtain⟨g1,g2,g3⟩:=Jrn kA (eV A2 c2);have hh:=Jr7 (B:=v1.heap.size) (i:=i) (c:=⟨g,bo,2,[(kA,eV A2 c2)]⟩) (k:=kA) (dir:=⟨#[47]⟩) (s:=⟨#[97]⟩) (ep:=0) (A:=A) (n:=1) (ca:=c) (ad:=1) (Ap:=Ap) (np:=1) (cp:=cp) (P:=[]) hs hbW.size rfl (show 0<((shd.news gs 2).set i ⟨g,bo,2,[(kA,eV A2 c2)]⟩).length by omega) (show ((shd.news gs 2).set i ⟨g,bo,2,[(kA,eV A2 c2)]⟩).length≤256 by omega) (show i=sha.ofF kA ((shd.news gs 2).set i ⟨g,bo,2,[(kA,eV A2 c2)]⟩).length by rw [hn];exact x.of) (by show ((shd.news gs 2).set i _)[i]?=_;rw [List.getElem?_set_self hlt]) (by simp) (by decide) (by decide) (show (0:Int)≤0∧(0:Int)≤1000000 by decide) (by decide) 0 g1 (by rw [g2];rfl) (by rw [g2];exact dca.Sp.nil _ _ _);refine hh.mono ?_;rintro e W' ⟨Af,cf,bo',rfl,_,hs',hk⟩;refine⟨Af,cf,by rw [g2];rfl,h.kept' hk ⟨bo',A2,c2,?_⟩⟩;rw [g3] at hs';have e9:(((shd.news gs 2).set i ⟨g,bo,2,[(kA,eV A2 c2)]⟩).set i ⟨g,bo',2,[(kA,eV A2 c2)]⟩)=(shd.news gs 2).set i ⟨g,bo',2,[(kA,eV A2 c2)]⟩:=List.set_set ..;have hs2:Sv W' v1.heap.size b {dk A c L gs gs2 g i bo A2 c2 0 with N:=((shd.news gs 2).set i ⟨g,bo,2,[(kA,eV A2 c2)]⟩).set i ⟨g,bo',2,[(kA,eV A2 c2)]⟩,x:=0+1}:=hs';rw [e9] at hs2;exact hs2
theorem Jq3 {S:TypeId→Prop} {B a4 a5:Nat} {w u V V':World} (h:Kept S B w u) (t4:Tn (fun k=>k=a4) u V) (t5:Tn (fun k=>k=a5) V V') (l4:w.heap.size≤a4) (l5:w.heap.size≤a5):Kept S B w V':=Je7 (Je7 h t4 l4) t5 l5
structure Pst (v1 w10:World) (A:Option Addr) (c:Nat) (L:List (Nat×Int)) (b:Bk) (gs gs2:List Nat) (g i a4 a5:Nat) (W:World):Prop where
 ph:Ph v1 A c L b gs gs2 g i W 2
 kept:Kept dca.DS v1.heap.size w10 W
 e4:∃Af cf,W.heap[a4]?=some (.cells (eC Af cf).toArray 75 (0,0))
 e5:∃Af cf,W.heap[a5]?=some (.cells (eC Af cf).toArray 75 (0,0))
theorem Ph.frm {T:TypeId→Prop} (h:Ph v1 A c L b gs gs2 g i W k) (m:Frm T (fun _=>False) W W') (hT:∀t∈mine,¬T t):Ph v1 A c L b gs gs2 g i W' k:=by
 rcases k with _ |k
 ·exact Sv.frm h m hT
 ·obtain⟨bo,A2,c2,h⟩:=h
  exact⟨bo,A2,c2,h.frm m hT⟩
theorem Q.put4 {a4 a5:Nat} (h:Q v1 w10 A c L b gs gs2 g i 2 (some a4) (some a5) pl W) (x:Spk v1 w10 A c L b gs gs2 g i gB) (Af:Option Addr) (cf:Nat):∀V,V=setsV W a4 0 (eC Af cf)→
  (V.cell? ⟨gB,0,none⟩=some (.slice A 1 c)∧V.cell? ⟨gB,1,none⟩=some (.int .i64 1))∧Bxz w10 V a5∧∀(Ag:Option Addr) (cg:Nat) (V':World),V'=setsV V a5 0 (eC Ag cg)→
   (V'.cell? ⟨gB,0,none⟩=some (.slice A 1 c)∧V'.cell? ⟨gB,1,none⟩=some (.int .i64 1))∧Pst v1 w10 A c L b gs gs2 g i a4 a5 V':=fun V hV=>by
 obtain⟨l4,h4⟩:=h.b4 a4 rfl;obtain⟨l5,h5⟩:=h.b5 a5 rfl;have hne:=h.ne a4 a5 rfl rfl;have hbx:=h.kept.blk x.box (by unfold dca.DS;decide);have hgB:=lt_of_some x.box;have t4:Tn (fun k=>k=a4) W V:=by rw [hV];exact Jan (S:=fun k=>k=a4) _ (.inr rfl) _ _ _ (Tn.refl _ _)
 have k4:Kept (fun t=>t=75) 0 W V:=t4.kept (fun k hk=>by subst hk;exact⟨Nat.zero_le _,_,_,_,h4,rfl⟩);have e4:V.heap[a4]?=some (.cells (eC Af cf).toArray 75 (0,0)):=by rw [hV];exact Jak h4 rfl
 have e5:V.heap[a5]?=some (.cells zC 75 (0,0)):=(t4.block a5 (lt_of_some h5) (fun e=>hne e.symm)).trans h5;have eB:=k4.blk hbx (by decide);refine⟨⟨Jaa eB 0,Jaa eB 1⟩,⟨l5,e5⟩,fun Ag cg V' hV'=>?_⟩;have t5:Tn (fun k=>k=a5) V V':=by rw [hV'];exact Jan (S:=fun k=>k=a5) _ (.inr rfl) _ _ _ (Tn.refl _ _)
 have k5:Kept (fun t=>t=75) 0 V V':=t5.kept (fun k hk=>by subst hk;exact⟨Nat.zero_le _,_,_,_,e5,rfl⟩);have e5':V'.heap[a5]?=some (.cells (eC Ag cg).toArray 75 (0,0)):=by rw [hV'];exact Jak e5 rfl
 have e4':V'.heap[a4]?=some (.cells (eC Af cf).toArray 75 (0,0)):=(t5.block a4 (lt_of_some e4) hne).trans e4;have eB':=k5.blk eB (by decide);have k45:=k4.trans k5;refine⟨⟨Jaa eB' 0,Jaa eB' 1⟩,h.ph.frm (Frm.of_kept k45) (by decide),?_,⟨_,_,e4'⟩,⟨_,_,e5'⟩⟩;exact Jq3 h.kept t4 t5 l4 l5
end
end Go.Proofs.YtkjpgheealfedaaGreatDoor.svr
