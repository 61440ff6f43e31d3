import Derived.Test.YtekekhgjobahaaaGreatDoorE8
import Derived.Test.YtekekhgjobahaaaGreatDoorF0
import Derived.Test.YtekekhgjobahaaaGreatDoorE9
set_option maxHeartbeats 25600000
set_option maxRecDepth 100000
open Go.Lib (hid)
open Go.Proofs.Tryz
namespace Go.Proofs.YtekekhgjobahaaaGreatDoor.scr
open Go.RowKit words ext name tre stk ima cal

theorem infoTx:(Tryz.prog.info? 9).map (fun i=>(i.zero,i.size,i.bytes))=some (some (.string ⟨#[]⟩),1,16):=by kernel_rfl
theorem Js3 {w:World} {B n c:Nat} {A:Option Addr} {I:List ByteArray} (h:w.ownsRow B 9 1 (.slice A n c) n (I.map Value.string)):Tx w w.heap.size A I:=fun i x hx=>by
 obtain⟨b,cur,e1,_,e3,_,e5⟩:=tre.own_cell h (j:=i) (u:= .string x) (by rw [List.getElem?_map,hx];rfl);exact⟨b,0,e1,e3,by rw [Nat.zero_add];exact e5⟩
theorem Jnx {w w':World} {B n size:Nat} {v:Value} {E:TypeId} {xs:List Value} (h:w.ownsRow B E size v n xs) (hb:Below w.heap.size w w'):w'.ownsRow B E size v n xs:=by
 refine⟨h.1,?_⟩;rcases h.2 with h0 |⟨g,cap,cur,h1,h2,h3,h4⟩
 ·exact .inl h0
 ·exact .inr ⟨g,cap,cur,h1,h2,(hb.block _ (lt_of_some h3)).trans h3,h4⟩
def okB (s:ByteArray):Bool:=(decB s).isSome
theorem Jyn {n:Nd} (hs:smallB n=true) (ht:treeB n=true) (hm:Tame n):okB (imgB n)=true∧OpenY (imgB n):=by
 have ho:=Jwq hs hm ht;have hn:=Jq5 hs ho.all hm;have hc:=ho.cnt;have hd:=ho.dep;refine⟨by unfold okB;rw [Jky ht (by omega) (by omega)];rfl,n,rfl,ht,ho.cc,by omega,by omega,by omega⟩
theorem Jxy {s:ByteArray} (hs:s.size≤500):(okB s=true→OpenY s)∧(okB s=false→OpenN s):=by
 unfold okB;constructor
 ·intro h
  obtain⟨n,hn⟩:=Option.isSome_iff_exists.1 h;obtain⟨h1,h2,h3,h4,h5,h6⟩:=Jro (by omega) hn;exact⟨n,h1,h2,by rw [Jj0 (by omega)];unfold wrap64;omega,h4,h5,h6⟩
 ·intro h
  refine⟨Option.isNone_iff_eq_none.1 (by rw [←Option.not_isSome,h];rfl),by omega,fun n c hn=>?_⟩;obtain⟨h1,h2⟩:=Jgd 4097 _ _ _ _ _ hn;have h3:=Jvg s;rw [h1,List.length_append] at h3;simp at h3;omega
end Go.Proofs.YtekekhgjobahaaaGreatDoor.scr

namespace Go.Proofs.YtekekhgjobahaaaGreatDoor.rep
open Go.RowKit words cal scr

theorem Jio {y:ByteArray→Bool}:∀(L:List ByteArray) (k:Nat),(∀x∈L,y x=true)→k≤64→64<k+L.length→skE y k L=6
 |[],k,_,hk,h=>by simp at h;omega
 |x::r,k,h,hk,hl=>by
  unfold skE;rw [if_pos (h x (by simp))];by_cases h6:64≤k
  ·rw [if_pos h6]
  ·rw [if_neg h6]
   exact Jio r (k+1) (fun z hz=>h z (by simp [hz])) (by omega) (by rw [List.length_cons] at hl;omega)
theorem Jrx (y:ByteArray→Bool) (x:ByteArray):skE y 0 [x]=if y x=true then 0 else 1:=by
 unfold skE;split
 ·rw [if_neg (by decide)];rfl
 ·rfl
theorem fitsI (I:List ByteArray):Fits (scI I).m:=⟨(by decide:(-9223372036854775808:Int)≤0∧(0:Int)≤9223372036854775807),(by decide:(-9223372036854775808:Int)≤0∧(0:Int)≤9223372036854775807),(by decide:(-9223372036854775808:Int)≤0∧(0:Int)≤9223372036854775807),fun _ h=>(by cases h),fun _ h=>(by cases h),fun _ h=>(by cases h)⟩
theorem parseI {T:ByteArray} {I:List ByteArray} (h:T.data.toList=printM (scI I).m):parseS T.data.toList= .inl (scI I).m:=by
 rw [h];exact Jdu (fitsI I)
theorem fbI (I:List ByteArray) (n:Nat) (h:I.length≤n):FB n (scI I):=
 ⟨(by decide:(-9223372036854775808:Int)≤0∧(0:Int)≤9223372036854775807),(by decide:(-9223372036854775808:Int)≤0∧(0:Int)≤9223372036854775807),(by decide:(-9223372036854775808:Int)≤0∧(0:Int)≤9223372036854775807),fun _ h=>(by cases h),fun _ h=>(by cases h),h,Nat.zero_le _,fun _ h=>(by cases h)⟩
theorem lenI (I:List ByteArray) (b:Nat) (h:∀x∈I,x.size≤b):(printM (scI I).m).length≤100+I.length*(2*b+8):=by
 have h1:(roomL (scI I).m).length≤4+22*3:=by
  rw [←Jnc];refine Jlb (l:=roomW) fun n hn=>?_;have hn:n=0∨n=0∨n=0:=by simpa [scI,ScB.m] using hn
  unfold I64;omega
 have h2:(textT ((scI I).m.im.map imageL)).length≤(scI I).m.im.length*(2*b+7+1):=by
  refine Jjp imageL (2*b+7) _ fun x hx=>?_;obtain⟨y,hy,rfl⟩:=List.mem_map.1 hx;have h3:=Jfl y.data.toList;rw [size_list] at h3;have:=h y hy;unfold imageL imageW;simp;omega
 have h5:(scI I).m.im.length=I.length:=by simp [scI,ScB.m]
 have hsum:(printM (scI I).m).length=(roomL (scI I).m).length+1+(textT ((scI I).m.im.map imageL)).length:=by
  unfold printM;rw [show linesM (scI I).m=[roomL (scI I).m]++((scI I).m.im.map imageL++[]++[]) from rfl];rw [Jf6,Jf5,List.append_nil,List.append_nil];simp only [List.length_append,List.length_singleton]
 rw [h5] at h2;rw [hsum,show 2*b+8=2*b+7+1 from rfl];omega
def endA:ByteArray:=⟨#[101,110,100,32,48,32,49,32,48,10]⟩
def errA:ByteArray:=⟨#[101,114,114,111,114,32,48,32,49,10]⟩
def errF:ByteArray:=⟨#[101,114,114,111,114,32,48,32,54,10]⟩
theorem Jwi:repT [] (-1) 0 1 0=endA.data.toList:=by
 unfold repT;rw [if_neg (by decide)];simp only [List.flatMap_nil];rw [Jam (n:=0) (by decide) (by decide),Jam (n:=((1:Nat):Int)) (by decide) (by decide)];rfl
theorem Jvz:errT 0 1=errA.data.toList:=by
 unfold errT;rw [Jam (n:=0) (by decide) (by decide),Jam (n:=1) (by decide) (by decide)];rfl
theorem Jxq:errT 0 6=errF.data.toList:=by
 unfold errT;rw [Jam (n:=0) (by decide) (by decide),Jam (n:=6) (by decide) (by decide)];rfl
theorem Js5 (y:ByteArray→Bool) (x:ByteArray):imgT [x] (skE y 0 [x])=(if y x=true then endA else errA).data.toList:=by
 rw [Jrx];unfold imgT;rcases y x with _ |_
 ·rw [if_neg (by decide),if_neg (by decide),if_neg (by decide)]
  exact Jvz
 ·rw [if_pos rfl,if_pos rfl,if_pos rfl]
  exact Jwi
theorem Jq4 (y:ByteArray→Bool) (L:List ByteArray) (h:∀x∈L,y x=true) (hl:64<L.length):imgT L (skE y 0 L)=errF.data.toList:=by
 rw [Jio L 0 h (by decide) (by omega)];unfold imgT;rw [if_neg (by decide)];exact Jxq
theorem Jmv (m:Int) (I:List ByteArray) (y:ByteArray→Bool) (T q:ByteArray) (w:World) (hE:Env m w) (hT:T.data.toList=printM (scI I).m) (hb:(printM (scI I).m).length≤900000) (hy:∀x∈I,(y x=true→OpenY x)∧(y x=false→OpenN x)) (hI:I.length≤1000000) (hz:I64 (skE y 0 I)) (hq:imgT I (skE y 0 I)=q.data.toList):
  Calls prog 9 #[.string T] w fun e w'=>e= .returned (.string q)∧Below w.heap.size w w':=
 (Jwv m T I y w (by rw [←size_list,hT];exact hb) hE (parseI hT) hy hI hz).mono fun e w' h=>by
  obtain⟨⟨r,h1,h2⟩,h3⟩:=h;refine⟨?_,h3⟩;have e:r=q:=Jbd (by rw [h2,hq]);rw [h1,e]
def eD:tre.Nd:=tre.dirN [] []
theorem Jt5:okB (ima.imgB eD)=true∧OpenY (ima.imgB eD):=by
 refine Jyn ?_ ?_ ?_
 ·decide+kernel
 ·decide+kernel
 ·exact .mk (by decide) (by decide) fun x h=>by cases h
theorem Jlj:(ima.imgB eD).size≤500:=by decide+kernel
end Go.Proofs.YtekekhgjobahaaaGreatDoor.rep

namespace Go.Proofs.YtekekhgjobahaaaGreatDoor.rep
open Go.RowKit words cal scr tre

theorem Jvt:∀{ps:List (List UInt8)} {r:Rd} {n b:Nat},ps≠[]→prsM r n ps= .inr b→n≤b∧b≤n+ps.length
 |[],_,_,_,h,_=>absurd rfl h
 |[_],r,n,b,_,h=>by
  rw [prsM] at h;injection h with h;simp;omega
 |p::q::ps,r,n,b,_,h=>by
  rw [prsM] at h;rcases ht:takeM r p with _ |r'
  ·rw [ht] at h
   injection h with h;simp;omega
  ·rw [ht] at h
   simp only at h;split at h
   ·cases h
   ·have:=Jvt (by simp) h
    simp at this ⊢;omega
theorem Jsw {s:ByteArray} {b:Nat} (hs:s.size≤3000) (h:parseS s.data.toList= .inr b):1≤b∧b≤1000000:=by
 unfold parseS at h;have h3:=Jlr 10 s.data.toList;rw [size_list] at h3;rcases hp:prsM rd0 1 (spl 10 s.data.toList) with r |b'
 ·rw [hp] at h;cases h
 ·rw [hp] at h
  injection h with h;subst h;have:=Jvt (Jf1 10 _) hp;omega
theorem Jm5 {w:World} {A:Option Addr} {I:List ByteArray} (h:Tx w w.heap.size A I):Scr w (scI I) A none none:=⟨h,fun i l h=>(by simp [scI] at h),fun i x h=>(by simp [scI] at h)⟩
theorem Jxa {w:World} {B n c:Nat} {A:Option Addr} {x:ByteArray} (h:w.ownsRow B 9 1 (.slice A n c) n (List.replicate n (Value.string x))):Tx w w.heap.size A (List.replicate n x):=Js3 (B:=B) (n:=n) (c:=c) (by rw [List.map_replicate];exact h)
structure Many (V:World) (g B:Nat) (x:ByteArray) (k:Nat) (A:Option Addr) (c:Nat) (wr:World):Prop where
 blk:wr.heap[g]?=some (.cells #[.int .i64 0,.int .i64 0,.int .i64 0,.slice A k c,.slice none 0 0,.slice none 0 0] 31 (0,0))
 size:B≤wr.heap.size
 ge:g≤V.heap.size
 own:wr.ownsRow B 9 1 (.slice A k c) k (List.replicate k (Value.string x))
 below:Below g V wr
theorem Many.later {V:World} {g B:Nat} {x:ByteArray} {k:Nat} {A:Option Addr} {c:Nat} {wr w2:World} (h:Many V g B x k A c wr) (hb:Below wr.heap.size wr w2):Many V g B x k A c w2:=
 ⟨stp.old hb h.blk,Nat.le_trans h.size hb.size,h.ge,Jnx h.own hb,h.below.trans (hb.mono (Nat.le_of_lt (lt_of_some h.blk)))⟩
theorem Many.next {V:World} {g B:Nat} {x:ByteArray} {k:Nat} {A A':Option Addr} {c c':Nat} {wr w4 w5:World} {v:Value} {n:Nat} {xs:List Value} (h:Many V g B x k A c wr) (hgB:g<B) (h4:w4.heap[g]?=some (.cells #[.int .i64 0,.int .i64 0,.int .i64 0,.slice A k c,.slice none 0 0,.slice none 0 0] 31 (0,0))) (ho4:w4.ownsRow B 9 1 v n xs) (hb4:Below wr.heap.size wr w4)
  (ho:w5.ownsRow B 9 1 (.slice A' (k+1) c') (k+1) (List.replicate k (Value.string x)++[.string x])) (hg:w4.grownBy w5 v.ownBlock):
  w5.heap[g]?=some (.cells #[.int .i64 0,.int .i64 0,.int .i64 0,.slice A k c,.slice none 0 0,.slice none 0 0] 31 (0,0))∧Hid (Many V g B x (k+1) A' c' (w5.setCell ⟨g,3,none⟩ (.slice A' (k+1) c'))):=by
 have hx5:w5.heap[g]?=some (.cells #[.int .i64 0,.int .i64 0,.int .i64 0,.slice A k c,.slice none 0 0,.slice none 0 0] 31 (0,0)):=(hg.block g (lt_of_some h4) (fun e=>by have:=(ho4.lt g e.symm).1;omega)).trans h4;refine⟨hx5,hid ⟨stp.put (cs:=[.int .i64 0,.int .i64 0,.int .i64 0,.slice A k c,.slice none 0 0,.slice none 0 0]) hx5 3 [.slice A' (k+1) c'] (show 3+1≤6 by decide),?_,h.ge,?_,?_⟩⟩
 ·rw [World.size_setCell];exact Nat.le_trans h.size (Nat.le_trans hb4.size hg.size)
 ·rw [List.replicate_succ']
  refine⟨ho.1,?_⟩;rcases ho.2 with h0 |⟨b,cap,cur,h1,h2,h3,h4⟩
  ·exact .inl h0
  ·exact .inr ⟨b,cap,cur,h1,h2,(heap_setCell_other _ _ _ _ (fun e=>by have e:b=g:=e;omega)).trans h3,h4⟩
 ·refine Below.setCell (p:=⟨g,3,none⟩) ?_ (Nat.le_refl _) _
  exact ext.keep_grown (h.below.trans (hb4.mono (Nat.le_of_lt (lt_of_some h.blk)))) ho4 hg (Nat.le_of_lt hgB) h.ge
theorem cs7 {w:World} {g t:Nat} {f:Nat×Nat} {u0 u1 u2 u3 u4 u5 u6:Value} (h:w.heap[g]?=some (.cells #[u0,u1,u2,u3,u4,u5,u6] t f)):w.cell? ⟨g,0,none⟩=some u0∧w.cell? ⟨g,1,none⟩=some u1∧w.cell? ⟨g,2,none⟩=some u2∧w.cell? ⟨g,3,none⟩=some u3∧w.cell? ⟨g,4,none⟩=some u4∧w.cell? ⟨g,5,none⟩=some u5∧w.cell? ⟨g,6,none⟩=some u6:=⟨Jaa h 0,Jaa h 1,Jaa h 2,Jaa h 3,Jaa h 4,Jaa h 5,Jaa h 6⟩
theorem Jwf (x:ByteArray) (w:World) (hx:x=ima.mkB (ima.nb eD)):Calls prog 31 #[.agg #[.int .i64 2,.bool false,.slice none 0 0,.slice none 0 0,.int .i64 0,.slice none 0 0,.string ⟨#[]⟩]] w fun e w'=>e= .returned (.string x)∧Below w.heap.size w w':=by
 obtain⟨W1,hW1⟩:=words.nm (w.alloc (.cells #[.int .i64 2,.bool false,.slice none 0 0,.slice none 0 0,.int .i64 0,.slice none 0 0,.string ⟨#[]⟩] 46));obtain⟨hx1,hb1⟩:=stp.new hW1;obtain⟨g,hg⟩:=words.nm (w.heap.size);rw [←hg] at hx1;obtain⟨S0,hS0⟩:∃S,S=ima.mkB (ima.be 2 1):=⟨_,rfl⟩
 obtain⟨S1,hS1⟩:∃S,S=ima.mkB (ima.be 2 1++ima.be 0 1):=⟨_,rfl⟩
 have HP1:Hid (Calls prog 62 #[.string ⟨#[]⟩,.int .i64 2,.int .i64 1] W1 fun e w'=>e= .returned (.string S0)∧Below W1.heap.size W1 w'):=hid (by
   rw [hS0];exact ima.rput [] 2 1 W1 (by omega) (by omega) (by omega) (by omega) (by simp))
 have J1:Hid (∀w':World,Calls prog 62 #[.string S0,.int .i64 0,.int .i64 1] w' fun e w''=>e= .returned (.string S1)∧Below w'.heap.size w' w''):=hid fun w'=>by
  rw [hS0,hS1];exact ima.rput (ima.be 2 1) 0 1 w' (by omega) (by omega) (by omega) (by omega) (by decide)
 have J2:Hid (∀w':World,Calls prog 62 #[.string S1,.int .i64 0,.int .i64 2] w' fun e w''=>e= .returned (.string x)∧Below w'.heap.size w' w''):=hid fun w'=>by
  rw [hS1,hx,show ima.nb eD=(ima.be 2 1++ima.be 0 1)++ima.be 0 2 by decide+kernel];exact ima.rput (ima.be 2 1++ima.be 0 1) 0 2 w' (by omega) (by omega) (by omega) (by omega) (by decide)
 have HX1:=hid hx1;have HB1:=hid hb1;have HW1:=hid hW1.symm;have HG:=hid hg;clear hW1 hx1 hb1 hS0 hS1 hx hg;go_enter func31,ntmps31
 go_upto_region 1 with fail
 rw [HW1.out];simp only [←HG.out];clear HW1;obtain⟨b0,b1,b2,b3,b4,b5,b6⟩:=cs7 HX1.out;go_wp2_with fail
 refine HP1.out.mono ?_;rintro e w2 ⟨rfl,hb2⟩;have HX2:=hid (stp.old hb2 HX1.out);have HB2:=hid (HB1.out.trans (hb2.mono HB1.out.size));have HBd:Hid (Below w2.heap.size w2 w2.drew):=hid (Below.refl _ _).drew;have HC:Hid (∀w',Below w2.heap.size w2 w'→w'.cell? ⟨g,2,none⟩=some (.slice none 0 0)):=hid fun w' hb=>(cs7 (stp.old hb HX2.out)).2.2.1;clear hb2 HP1 HX1 b0 b1 b2 b3 b4 b5 b6;obtain⟨b0,b1,b2,b3,b4,b5,b6⟩:=cs7 HX2.out;go_upto_region 12 with fail
 clear b0 b1 b2 b3 b4 b5 b6;refine held.wpT_start (S:=fun w'=>Below w2.heap.size w2 w') (T:=fun _=>false) (by kernel_rfl) ?_;refine stp.tk 0 48 ?_;refine stp.tk 1 49 ?_;refine stp.tk 3 51 ?_;refine stp.ld 4 52 (HBd.out) ?_ (hv:=by intro w' h;have c2:=HC.out w' h;clear h;go_simp;(try with_reducible rfl));refine stp.tk 5 53 ?_;refine held.wpT_one (i:=2) (by kernel_rfl) rfl (fun Kc hK=>?_);go_simp
 go_at_call 62
 refine (J1.out _).mono ?_;rintro en w3 ⟨rfl,hb3⟩;have HB3:=hid (HBd.out.trans (hb3.mono HBd.out.size));clear hb3 J1;refine hK.out _ _ (fun _ _=>HB3.out) ?_;clear hK;try simp only [stp.pt]
 refine held.wpT_one (i:=6) (by kernel_rfl) rfl (fun Kc hK=>?_);go_simp
 go_at_call 62
 refine (J2.out _).mono ?_;rintro en w4 ⟨rfl,hb4⟩;have HB4:=hid (HB3.out.trans (hb4.mono HB3.out.size));clear hb4 J2;refine hK.out _ _ (fun _ _=>HB4.out) ?_;clear hK;try simp only [stp.pt]
 refine stp.tk 7 3 ?_;refine held.wpT_done (by kernel_rfl) ?_ _;obtain⟨b0,b1,b2,b3,b4,b5,b6⟩:=cs7 (stp.old HB4.out HX2.out);have HF:=hid (HB2.out.trans (HB4.out.mono HB2.out.size));go_wp2_with fail
 refine wp_loop_rounds 1 ?_;rw [rounds_succ];go_wp2_with fail
 go_ret
 exact⟨rfl,HF.out⟩
theorem Jv4 (x:ByteArray) (w:World) (hx:x=ima.imgB eD):Calls prog 13 #[.agg #[.int .i64 2,.bool false,.slice none 0 0,.slice none 0 0,.int .i64 0,.slice none 0 0,.string ⟨#[]⟩]] w fun e w'=>e= .returned (.tuple #[.string x,.bool true])∧Below w.heap.size w w':=by
 obtain⟨W1,hW1⟩:=words.nm (w.alloc (.cells #[.int .i64 2,.bool false,.slice none 0 0,.slice none 0 0,.int .i64 0,.slice none 0 0,.string ⟨#[]⟩] 46));obtain⟨hx1,hb1⟩:=stp.new hW1;obtain⟨g,hg⟩:=words.nm (w.heap.size);rw [←hg] at hx1;have HR:Hid (Calls prog 18 #[.agg #[.int .i64 2,.bool false,.slice none 0 0,.slice none 0 0,.int .i64 0,.slice none 0 0,.string ⟨#[]⟩]] W1 fun e w'=>e= .returned (.bool true)∧Below W1.heap.size W1 w'):=hid (by
   have h:=Jb9 eD raw0 W1 (.mk (fun _=>raw0) (fit0 2 ⟨#[]⟩ (by decide) (by decide) (by decide)) (fun _ _ hx=>(Jba hx).elim) (fun _ _ hx=>(Jba hx).elim) (fun _ _ hx=>(Jba hx).elim) (fun _ _ hx=>(Jba hx).elim)) (by decide+kernel);rw [show refB eD=true by decide+kernel] at h;exact h)
 obtain⟨q,hq⟩:=words.nm (ima.mkB (ima.nb eD));have HP:Hid (∀w',Calls prog 31 #[.agg #[.int .i64 2,.bool false,.slice none 0 0,.slice none 0 0,.int .i64 0,.slice none 0 0,.string ⟨#[]⟩]] w' fun e w''=>e= .returned (.string q)∧Below w'.heap.size w' w''):=hid fun w'=>Jwf q w' hq;have hqs:q.size=4:=by rw [hq,ima.mkB_size];decide+kernel
 have hcat:¬9223372036854775807<7+q.size:=by omega
 have hez:(⟨#[115,111,99,97,103,101,49]⟩:ByteArray)++q=x:=by rw [hx,hq];rfl
 have hxs:x.size=11:=by rw [←hez,ByteArray.size_append,hqs];rfl
 have g1:¬(4194304:Int)<(x.size:Int):=by omega
 have HX1:=hid hx1;have HB1:=hid hb1;have HW1:=hid hW1.symm;have HG:=hid hg;clear hW1 hx1 hb1 hg hq hx;go_enter func13,ntmps13
 go_upto_region 1 with fail
 rw [HW1.out];simp only [←HG.out];clear HW1;obtain⟨b0,b1,b2,b3,b4,b5,b6⟩:=cs7 HX1.out;go_wp2_with fail
 refine HR.out.mono ?_;rintro e w2 ⟨rfl,hb2⟩;have HX2:=hid (stp.old hb2 HX1.out);have HB2:=hid (HB1.out.trans (hb2.mono HB1.out.size));have HP2:=hid (HP.out w2);clear hb2 HR HP HX1 b0 b1 b2 b3 b4 b5 b6;obtain⟨b0,b1,b2,b3,b4,b5,b6⟩:=cs7 HX2.out;go_wp2_with fail
 refine HP2.out.mono ?_;rintro e w3 ⟨rfl,hb3⟩;have HF:=hid (HB2.out.trans (hb3.mono HB2.out.size));clear hb3 HP2 b0 b1 b2 b3 b4 b5 b6;go_wp2_with fail
 go_ret2
 exact⟨rfl,HF.out⟩
theorem law_bad (m:Int) (s:ByteArray) (A:Option Addr) (c:Nat) (T:List Nd) (rs:Nat→Raw) (odd:ByteArray) (w:World) (hT:stk.Trees w w.heap.size A T rs) (hE:Env m w):
  Calls prog 3 #[.string s,.slice A T.length c,.string odd] w (AnsB true w):=by
 have HE:=hid hE;have HT:=hid hT;have HSp:=hid (Jpg m w hE);clear hE hT;go_enter func3,ntmps3
 go_wp2_with fail
 refine HSp.out.mono ?_;rintro e w1 ⟨rfl,hb1⟩;have HB1:=hid hb1;have HC:=hid (seen.may_any A c T rs w1 (HT.out.later hb1));clear hb1 HSp;by_cases h1:3000<s.size
 ·have g1:(3000:Int)<(s.size:Int):=by omega
  go_wp2_with fail
  go_ret
  exact⟨rfl,HB1.out⟩
 have g1:¬(3000:Int)<(s.size:Int):=by omega
 by_cases h2:500<odd.size
 ·have g2:(500:Int)<(odd.size:Int):=by omega
  go_wp2_with fail
  go_ret
  exact⟨rfl,HB1.out⟩
 have g2:¬(500:Int)<(odd.size:Int):=by omega
 go_wp2_with fail
 refine HC.out.mono ?_;rintro e w2 ⟨rfl,hb2⟩;have HB2:=hid (HB1.out.trans (hb2.mono HB1.out.size));clear hb2 HC HB1;rcases hmay:seen.mayB T with _ |_
 ·rw [seen.mayI_no hmay]
  go_wp2_with fail
  go_ret
  exact⟨rfl,HB2.out⟩
 rw [seen.mayI_yes hmay];clear hmay HT;have HPa:Hid (Calls prog 7 #[.string s] w2 fun e w'=>(∃(c0 c1 c2:Int) (Ai:Option Addr) (ni ci:Nat) (Ac:Option Addr) (nc cc:Nat) (Ap:Option Addr) (np cp:Nat) (bi:Int),e= .returned (.tuple #[.agg #[.int .i64 c0,.int .i64 c1,.int .i64 c2,.slice Ai ni ci,.slice Ac nc cc,.slice Ap np cp],.int .i64 bi])∧(bi=0∨∃b:Nat,bi=(b:Int)∧1≤b∧b≤1000000∧parseS s.data.toList= .inr b))∧Below w2.heap.size w2 w'):=hid ((Jc2 m s w2 (by omega) (HE.out.later HB2.out)).mono fun e w' ho=>by
   obtain⟨ho,hb⟩:=ho;refine⟨?_,hb⟩;rcases ho with⟨S,vi,vc,vp,_,h2,hown,_⟩ |⟨b,h1,h2⟩
   ·obtain⟨Ai,ci,Ac,cc,Ap,cp,rfl,rfl,rfl,_⟩:=hown.form
    exact⟨_,_,_,_,_,_,_,_,_,_,_,_,0,h2,.inl rfl⟩
   ·obtain⟨h3,h4⟩:=Jsw (by omega) h1
    exact⟨_,_,_,_,_,_,_,_,_,_,_,_,(b:Int),h2,.inr ⟨b,rfl,h3,h4,h1⟩⟩)
 go_wp2_with fail
 refine HPa.out.mono ?_;rintro e w3 ⟨⟨c0,c1,c2,Ai,ni,ci,Ac,nc,cc,Ap,np,cp,bi,rfl,hbi⟩,hb3⟩;obtain⟨W4,hW4⟩:=words.nm (w3.alloc (.cells #[.int .i64 c0,.int .i64 c1,.int .i64 c2,.slice Ai ni ci,.slice Ac nc cc,.slice Ap np cp] 31));have HB4:=hid (HB2.out.trans ((hb3.trans ((stp.new hW4).2.mono hb3.size)).mono HB2.out.size));have HBi:=hid hbi;have HW4:=hid hW4.symm;clear hb3 hW4 HPa hbi HB2;go_upto_region 6 with (refine stp.wl_put (vs:=[.int .i64 c0,.int .i64 c1,.int .i64 c2,.slice Ai ni ci,.slice Ac nc cc,.slice Ap np cp]) (zs:=[.int .i64 0,.int .i64 0,.int .i64 0,.slice none 0 0,.slice none 0 0,.slice none 0 0]) rfl rfl rfl rfl rfl rfl (by kernel_rfl) (by simp [Value.oneCell']) ?_)
 rw [HW4.out];clear HW4;go_upto_if 38 with fail
 go_cut [9] from 37 to 69 (fun v9 wx=>Hid (Below w.heap.size w wx))
 case first=>
  rcases HBi.out with h0 |⟨b,hb,hb1,hb2,hpb⟩
  ·subst h0
   clear HBi;go_wp2_with fail
   go_meet
   exact HB4
  ·subst hb
   have gb:(0:Int)<(b:Int):=by omega
   have HPl:=hid (Jnq m s b W4 (by omega) (HE.out.later HB4.out) hpb (by omega));have HRn:Hid (∀w',Below W4.heap.size W4 w'→Calls prog 9 #[.string s] w' (StrOut (errT b 10) w')):=hid fun w' hb=>Jsg m s b w' (by omega) ((HE.out.later HB4.out).later hb) hpb (by omega) hb2;have hI:I64 (b:Int):=by unfold I64;omega
   have HI:=hid hI;clear HBi hpb hI;go_wp2_with fail
   refine HPl.out.mono ?_;rintro e w5 ⟨rfl,hb5⟩;obtain⟨W6,hW6⟩:=words.nm (w5.alloc (.cells #[.int .i64 (b:Int),.int .i64 10,.slice none 0 0,.int .i64 (-1),.int .i64 0,.slice none 0 0,.int .i64 0,.int .i64 0] 40));obtain⟨hx6,hb6⟩:=stp.new hW6;obtain⟨g9,hg9⟩:∃g,g=w5.heap.size:=⟨_,rfl⟩
   rw [←hg9] at hx6;have HG9:=hid hg9;have HX6:=hid hx6;have HB6:=hid (hb5.trans (hb6.mono hb5.size));have HW6:=hid hW6.symm;have HR6:=hid (HRn.out W6 HB6.out);clear hb5 hW6 hx6 hb6 hg9 HPl HRn;go_upto_region 8 with (refine stp.wl_put (vs:=[.int .i64 (b:Int),.int .i64 10,.slice none 0 0,.int .i64 (-1),.int .i64 0,.slice none 0 0,.int .i64 0,.int .i64 0]) (zs:=[.int .i64 0,.int .i64 0,.slice none 0 0,.int .i64 0,.int .i64 0,.slice none 0 0,.int .i64 0,.int .i64 0]) rfl rfl rfl rfl rfl rfl (by kernel_rfl) (by simp [Value.oneCell']) ?_)
   rw [HW6.out];simp only [←HG9.out];clear HW6;obtain⟨p0,p1,p2,p3,p4,p5,p6,p7⟩:=stp.cs8 HX6.out;go_wp2_with fail
   refine HR6.out.mono ?_;rintro e w7 ⟨⟨r,rfl,hr⟩,hb7⟩;have HB7:=hid (HB6.out.trans (hb7.mono HB6.out.size));have HR:=hid hr;have HN:=hid (Jo3 (b:Int) HI.out w7);clear hb7 hr HR6;go_wp2_with fail
   refine HN.out.mono ?_;rintro e w8 ⟨⟨r2,rfl,hr2⟩,hb8⟩;have hz2:r2.size≤21:=Jim hr2 HI.out;have y1:¬9223372036854775807<6+r2.size:=by omega
   have y2:¬9223372036854775807<6+r2.size+4:=by omega
   have hez:(⟨#[101,114,114,111,114,32]⟩++r2++⟨#[32,49,48,10]⟩:ByteArray)=r:=Jbd (by
     rw [HR.out];unfold errT;rw [Jgy,Jgk (n:=10) (p:=1) (d:=0) (by decide) (by decide) (by decide) (by decide),Jam (n:=1) (by decide) (by decide),←hr2];simp [errL])
   have gz:(r.toList !=r.toList)=false:=by simp
   have HB8:Hid (Below w.heap.size w w8):=hid (HB4.out.trans ((HB7.out.trans (hb8.mono HB7.out.size)).mono HB4.out.size));clear hb8 hr2 HN;go_wp2_with fail
   go_meet
   exact HB8
 case rest=>
 have HB5:=hcut;clear HBi HB4;obtain⟨w5,hw5⟩:=words.nm (wc);rw [←hw5] at HB5 ⊢;clear hw5;obtain⟨ga,hga⟩:∃g,g=w5.heap.size:=⟨_,rfl⟩
 obtain⟨W6,hW6⟩:=words.nm (w5.alloc (.cells #[.string odd] 9));obtain⟨hx6,hb6⟩:=stp.new hW6;rw [←hga] at hx6;obtain⟨gy,hgy⟩:∃g,g=ga+1:=⟨_,rfl⟩
 obtain⟨W7,hW7⟩:=words.nm (W6.alloc (.cells #[.int .i64 0,.int .i64 0,.int .i64 0,.slice (some ⟨ga,0,none⟩) 1 1,.slice none 0 0,.slice none 0 0] 31));obtain⟨hx7,hb7⟩:=stp.new hW7;rw [show W6.heap.size=gy by rw [hgy,hga,hW6];simp] at hx7;have HX7:=hid hx7;have HX67:=hid (stp.old hb7 hx6);have HGa:=hid hga;have HGy:=hid hgy;have HW6:=hid hW6.symm;have HW7:=hid hW7.symm;have HB7:=hid (HB5.out.trans ((hb6.trans (hb7.mono hb6.size)).mono HB5.out.size));clear hga hgy hx6 hb6 hx7 hb7 hW6 hW7;obtain⟨ob,hob⟩:∃b,b=okB odd:=⟨_,rfl⟩
 have HDe:Hid (Calls prog 11 #[.string odd] W7 fun e w'=>(∃(nd:Nd) (rn:Raw),e= .returned (.tuple #[.agg #[.int .i64 nd.K,.bool nd.O,.slice rn.An nd.N.length rn.cn,.slice rn.Ai nd.I.length rn.ci,.int .i64 nd.S,.slice rn.Ae nd.E.length rn.ce,.string nd.T],.bool ob]))∧Below W7.heap.size W7 w'):=hid ((ima.refdecode_any odd W7 (by omega)).mono fun e w' ho=>by
   obtain⟨ho,hb⟩:=ho;refine⟨?_,hb⟩;rw [hob];unfold okB;rw [ima.decB_refD (by omega)];rcases ho with⟨n,r,h1,h2,_⟩ |⟨h1,h2⟩
   ·rw [h1];exact⟨n,r,h2⟩
   ·rw [h1];exact⟨nd0,raw0,h2⟩)
 have HOb:=hid hob;clear hob;go_upto_region 11 with (refine stp.wl_put (vs:=[.int .i64 0,.int .i64 0,.int .i64 0,.slice (some ⟨ga,0,none⟩) 1 1,.slice none 0 0,.slice none 0 0]) (zs:=[.int .i64 0,.int .i64 0,.int .i64 0,.slice none 0 0,.slice none 0 0,.slice none 0 0]) rfl rfl rfl rfl rfl rfl (by kernel_rfl) (by simp [Value.oneCell']) ?_)
 rw [HW6.out];simp only [←HGa.out];rw [HW7.out];simp only [←HGy.out];clear HW6 HW7;go_wp2_with fail
 refine HDe.out.mono ?_;rintro e w8 ⟨⟨nd,rn,rfl⟩,hb8⟩;obtain⟨W9,hW9⟩:=words.nm (w8.alloc (.cells #[.int .i64 nd.K,.bool nd.O,.slice rn.An nd.N.length rn.cn,.slice rn.Ai nd.I.length rn.ci,.int .i64 nd.S,.slice rn.Ae nd.E.length rn.ce,.string nd.T] 46));have HB79:=hid (hb8.trans ((stp.new hW9).2.mono hb8.size));have HB9:=hid (HB7.out.trans (HB79.out.mono HB7.out.size));have HX9:=hid (stp.old HB79.out HX7.out);have HTx9:Hid (Tx W9 W9.heap.size (some ⟨ga,0,none⟩) [odd]):=hid fun i x hx=>by
  have h9:=stp.old HB79.out HX67.out;rcases i with _ |i
  ·injection hx with hx
   subst hx;exact⟨ga,0,rfl,lt_of_some h9,Jaa h9 0⟩
  ·simp at hx
 have HW9:=hid hW9.symm;clear hb8 hW9 HDe HX67;go_upto_region 12 with (refine stp.wl_put (vs:=[.int .i64 nd.K,.bool nd.O,.slice rn.An nd.N.length rn.cn,.slice rn.Ai nd.I.length rn.ci,.int .i64 nd.S,.slice rn.Ae nd.E.length rn.ce,.string nd.T]) (zs:=[.int .i64 0,.bool false,.slice none 0 0,.slice none 0 0,.int .i64 0,.slice none 0 0,.string ⟨#[]⟩]) rfl rfl rfl rfl rfl rfl (by kernel_rfl) (by simp [Value.oneCell']) ?_)
 rw [HW9.out];clear HW9;have HPr:Hid (Calls prog 12 #[.agg #[.int .i64 0,.int .i64 0,.int .i64 0,.slice (some ⟨ga,0,none⟩) 1 1,.slice none 0 0,.slice none 0 0]] W9 (StrOut (printM (scI [odd]).m) W9)):=hid (Jjr m 100 (scI [odd]) (some ⟨ga,0,none⟩) none none 1 0 0 W9 (Jm5 HTx9.out) (by decide) (fbI _ _ (show 1≤100 by decide)) (fun x hx=>by rw [List.mem_singleton.1 hx];omega) (show 0≤1000000 by decide) (by have:=lenI [odd] 500 (fun x hx=>by rw [List.mem_singleton.1 hx];omega);simp at this;omega) (HE.out.later HB9.out) ⟨rfl,rfl⟩);obtain⟨y0,y1,y2,y3,y4,y5⟩:=stp.cs6 HX9.out;go_wp2_with fail
 refine HPr.out.mono ?_;rintro e w10 ⟨⟨tx,rfl,htx⟩,hb10⟩;have HB10:=hid (HB9.out.trans (hb10.mono HB9.out.size));obtain⟨q,hq⟩:=words.nm ((if ob=true then endA else errA));have HQ:=hid hq;have HRu:=hid (Jmv m [odd] okB tx q w10 (HE.out.later HB10.out) htx (by have:=lenI [odd] 500 (fun x hx=>by rw [List.mem_singleton.1 hx];omega);simp at this;omega) (fun x hx=>by rw [List.mem_singleton.1 hx];exact Jxy (by omega)) (show 1≤1000000 by decide) (by rw [Jrx];unfold I64;split<;>omega) (by rw [hq,HOb.out];exact Js5 okB odd));clear hb10 htx hq HPr y0 y1 y2 y3 y4 y5;go_wp2_with fail
 refine HRu.out.mono ?_;rintro e w11 ⟨rfl,hb11⟩;have HB11:=hid (HB10.out.trans (hb11.mono HB10.out.size));clear hb11 HRu;go_upto_region 13 with fail
 go_cut [93] from 81 to 93 (fun v wx=>v= .bool false∧wx=w11)
 case first=>
  rcases ob with _ |_
  ·have hqe:q=⟨#[101,114,114,111,114,32,48,32,49,10]⟩:=by rw [HQ.out];rfl
   subst hqe;go_wp2_with fail
   go_meet
   case rel=>exact⟨rfl,rfl⟩
  ·have hqe:q=⟨#[101,110,100,32,48,32,49,32,48,10]⟩:=by rw [HQ.out];rfl
   subst hqe;go_wp2_with fail
   go_meet
   case rel=>exact⟨rfl,rfl⟩
 case rest=>
 obtain⟨rfl,hwc⟩:=hcut;have hwc:=hwc.symm;subst hwc;clear HQ;obtain⟨gm,hgm⟩:∃g,g=w11.heap.size:=⟨_,rfl⟩
 obtain⟨V,hV⟩:=words.nm (w11.alloc (.cells #[.int .i64 0,.int .i64 0,.int .i64 0,.slice none 0 0,.slice none 0 0,.slice none 0 0] 31));obtain⟨hxv,hbv⟩:=stp.new hV;rw [←hgm] at hxv;obtain⟨B0,hB0⟩:∃B,B=V.heap.size:=⟨_,rfl⟩
 have HGB:=hid (show gm<B0 by rw [hB0];exact lt_of_some hxv);obtain⟨x,hx⟩:=words.nm (ima.imgB eD);have HXd:=hid hx;obtain⟨iS,hiS,zS0,zS1,zS2⟩:=info_parts infoTx;have HI0:Hid (Many w11 gm B0 x 0 none 0 V):=hid ⟨hxv,by rw [hB0];exact Nat.le_refl _,by rw [hgm];exact Nat.le_refl _,World.ownsRow_nil _ _ _ _,by rw [hgm];exact hbv⟩;have HGm:=hid hgm;have HBw:Hid (w.heap.size≤gm):=hid (by rw [hgm];exact HB11.out.size);have HV:=hid hV.symm;clear hgm hV hxv hbv hB0 hx;go_upto_region 16 with fail
 rw [HV.out];simp only [←HGm.out];clear HV;go_wp2_with fail
 go_loopw [94,15,16] (fun v v15 v16 wr=>∃(k:Nat) (Am:Option Addr) (cm:Nat),v= .int .i64 (k:Int)∧k≤65∧Hid (Many w11 gm B0 x k Am cm wr)) (fun v _ _ _=>65 - (intOf v).toNat)
 case atStart=>exact⟨0,none,0,rfl,by decide,HI0⟩
 case round=>
  clear HI0;obtain⟨k,Am,cm,rfl,hk,HI⟩:=hrel;by_cases hlt:k<65
  ·have i1:(k:Int)<65:=by omega
   have HC:=hid (Jv4 x wr HXd.out);go_wp2_with fail
   refine HC.out.mono ?_;rintro e w12 ⟨rfl,hb12⟩;have HI2:=hid (HI.out.later hb12);obtain⟨y0,y1,y2,y3,y4,y5⟩:=stp.cs6 HI2.out.blk;have HO4:=hid (fun o=>Jnx HI2.out.own ((Below.refl w12.heap.size w12).alloc (Nat.le_refl _) o));have HX4:=hid (fun o=>stp.old ((Below.refl w12.heap.size w12).alloc (Nat.le_refl _) o) HI2.out.blk);clear hb12 HC HI;go_wp2_with (at_builtin;refine wpList_append_own _ rfl (.tmp 102) (.tmp 104) 27 rfl B0 9 iS _ 1 16 underlying27 hiS zS0 zS1 zS2 rfl (by omega) (.slice Am k cm) k (List.replicate k (Value.string x)) rfl (HO4.out _) ⟨w12.heap.size,0,none⟩ 1 1 [.string x] rfl rfl (World.news_of_block (cs:=#[.string x]) (heap_alloc_new w12 _)) (by simp [Value.oneCell']) (by unfold maxLen;omega) (by omega) (by have:=HI2.out.size;simp;omega) ?_;intro v5 w13 hown5 hgrow5 _;obtain⟨A5,c5,e5,_,_⟩:=own_facts hown5;subst e5;obtain⟨hp1,hp3⟩:=HI2.out.next HGB.out (HX4.out _) (HO4.out _) ((Below.refl w12.heap.size w12).alloc (Nat.le_refl _) _) hown5 hgrow5;have HP3:=hp3;have f3:=Jab hp1 3;obtain⟨z0,z1,z2,z3,z4,z5⟩:=stp.cs6 hp1;clear hown5 hgrow5 hp1 hp3)
   go_roundw
   case rel=>exact⟨k+1,_,_,by go_num,by omega,HP3⟩
   case measure=>simp [intOf];omega
  obtain rfl:k=65:=by omega
  have i1:¬((65:Nat):Int)<65:=by omega
  have HBr:Hid (Below w.heap.size w wr):=hid (HB11.out.trans (HI.out.below.mono HBw.out));obtain⟨y0,y1,y2,y3,y4,y5⟩:=stp.cs6 HI.out.blk;have HPr:Hid (Calls prog 12 #[.agg #[.int .i64 0,.int .i64 0,.int .i64 0,.slice Am 65 cm,.slice none 0 0,.slice none 0 0]] wr (StrOut (printM (scI (List.replicate 65 x)).m) wr)):=hid (Jjr m 100 (scI (List.replicate 65 x)) Am none none cm 0 0 wr (by have h:=Jm5 (Jxa HI.out.own);exact h) (by decide) (fbI _ _ (by rw [List.length_replicate];decide)) (fun y hy=>by rw [(List.mem_replicate.1 hy).2,HXd.out];have:=Jlj;omega) (show 0≤1000000 by decide) (by have:=lenI (List.replicate 65 x) 500 (fun y hy=>by rw [(List.mem_replicate.1 hy).2,HXd.out];exact Jlj);rw [List.length_replicate] at this;omega) (HE.out.later HBr.out) ⟨rfl,rfl⟩);go_wp2_with fail
  refine HPr.out.mono ?_;rintro e w14 ⟨⟨tx,rfl,htx⟩,hb14⟩;have HB14:=hid (HBr.out.trans (hb14.mono HBr.out.size));have HRu:=hid (Jmv m (List.replicate 65 x) okB tx errF w14 (HE.out.later HB14.out) htx (by have:=lenI (List.replicate 65 x) 500 (fun y hy=>by rw [(List.mem_replicate.1 hy).2,HXd.out];exact Jlj);rw [List.length_replicate] at this;omega) (fun y hy=>by rw [(List.mem_replicate.1 hy).2,HXd.out];exact⟨fun _=>Jt5.2,fun h=>by rw [Jt5.1] at h;cases h⟩) (by rw [List.length_replicate];decide) (by rw [Jio _ 0 (fun y hy=>by rw [(List.mem_replicate.1 hy).2,HXd.out];exact Jt5.1) (by decide) (by rw [List.length_replicate];decide)];unfold I64;omega) (Jq4 okB _ (fun y hy=>by rw [(List.mem_replicate.1 hy).2,HXd.out];exact Jt5.1) (by rw [List.length_replicate];decide)));unfold errF at HRu;clear hb14 htx HPr y0 y1 y2 y3 y4 y5;go_wp2_with fail
  refine HRu.out.mono ?_;rintro e w15 ⟨rfl,hb15⟩;have HF:=hid (HB14.out.trans (hb15.mono HB14.out.size));clear hb15 HRu;go_wp2_with fail
  go_ret
  exact⟨rfl,HF.out⟩
end Go.Proofs.YtekekhgjobahaaaGreatDoor.rep
