import Derived.Test.YtekekhgjobahaaaGreatDoorG7
set_option maxHeartbeats 12800000
set_option maxRecDepth 100000
open Go.Proofs.Tryz
namespace Go.Proofs.YtekekhgjobahaaaGreatDoor.tal
open Go.RowKit words

def srt (x y:Rc):Rc×Rc:=if y.ma<x.ma then (y,x) else (x,y)
theorem Jmb (g c:Nat) (x y:Rc) (w:World) (h:Two w g x y):Calls prog 162 #[.slice (some ⟨g,0,none⟩) 2 c,.int .i64 0,.int .i64 2,.func (.func 92) #[] #[]] w (fun e w'=>(∃u,e= .returned u)∧Two w' g (srt x y).1 (srt x y).2∧lru.Tn (fun j=>j=g) w w'):=by
 unfold srt;by_cases hlt:y.ma<x.ma
 ·rw [if_pos hlt]
  exact Jk5 g c x y w h (by simp [hlt])
 ·rw [if_neg hlt]
  exact Jjw g c x y w h (by simp [hlt])
theorem Jk9 (g c:Nat) (x y:Rc) (w:World) (h:Two w g x y):Calls prog 127 #[.slice (some ⟨g,0,none⟩) 2 c,.int .i64 2,.func (.func 92) #[] #[]] w (fun e w'=>(∃u,e= .returned u)∧Two w' g (srt x y).1 (srt x y).2∧lru.Tn (fun j=>j=g) w w'):=by
 have HI:=Lib.hid (Jmb g c x y w h);clear h;go_enter func127,ntmps127
 go_wp2_with fail
 refine wp_loop_rounds 1 ?_;rw [rounds_succ];go_wp2_with fail
 refine HI.out.mono ?_;rintro e w1 ⟨⟨u,rfl⟩,h1,h2⟩;have HE:=Lib.hid (And.intro h1 h2);clear h1 h2 HI;go_wp2_with fail
 refine wp_loop_rounds 1 ?_;rw [rounds_succ];go_wp2_with fail
 go_end0
 exact⟨⟨_,rfl⟩,HE.out⟩
theorem Jk0 (g c:Nat) (x y:Rc) (w:World) (h:Two w g x y):Calls prog 91 #[.slice (some ⟨g,0,none⟩) 2 c,.func (.func 92) #[] #[]] w (fun e w'=>(∃u,e= .returned u)∧Two w' g (srt x y).1 (srt x y).2∧lru.Tn (fun j=>j=g) w w'):=by
 have HI:=Lib.hid (Jk9 g c x y w h);clear h;go_enter func91,ntmps91
 go_wp2_with fail
 refine HI.out.mono ?_;rintro e w1 ⟨⟨u,rfl⟩,h1,h2⟩;have HE:=Lib.hid (And.intro h1 h2);clear h1 h2 HI;go_wp2_with fail
 go_end0
 exact⟨⟨_,rfl⟩,HE.out⟩
theorem Two.of_own {w:World} {B:Nat} {A:Option Addr} {c:Nat} {x y:Rc} (h:w.ownsRow B 59 19 (.slice A 2 c) 2 (x.cs++y.cs)):∃g,A=some ⟨g,0,none⟩∧B≤g∧Two w g x y:=by
 rcases h.2 with⟨_,h0⟩ |⟨g,cap,cur,hv,hb,hg,hle,_,hs,ht⟩
 ·omega
 ·injection hv with hv
  exact⟨g,hv,hb,cur,hg,by omega,ht⟩
theorem Two.same {w:World} {g k:Nat} {x y:Rc} {v:Value} (h:Two w g x y) (hc:w.cell? ⟨g,k,none⟩=some v):Two (w.setCell ⟨g,k,none⟩ v) g x y:=by
 obtain⟨cur,h1,h2,h3⟩:=h;have hk:cur[k]?=some v:=by rw [←Jaa h1];exact hc
 have e:cur.setIfInBounds k v=cur:=by
  apply Array.ext_getElem?;intro i;rw [Array.getElem?_setIfInBounds];split
  ·rename_i hi
   subst hi;split
   ·exact hk.symm
   ·rename_i hn
    rw [Array.getElem?_eq_none (by omega)]
  ·rfl
 refine⟨cur,?_,h2,h3⟩;simp [World.setCell,Array.getElem?_modify,h1,e]
def Bare (x:Rc):Prop:=x.cs[14]?=some (.slice none 0 0)
theorem Jbj (w:World):Calls prog 88 #[.slice none 0 0] w fun e w'=>e= .returned (.slice none 0 0)∧w'=w:=by
 have heq0:=fun wx=>Lib.run_eql_slice_nil (P:=prog) wx 27 9 none 0 0 0 0 underlying27;go_enter func88,ntmps88
 go_wp2_with fail
 go_ret
 exact⟨rfl,rfl⟩
theorem Jkf {w:World} {g o:Nat} {x y:Rc} (h1:w.rangeAt g o x.cs) (h2:w.rangeAt g (o+19) y.cs):Lies w (some ⟨g,o,none⟩) (x.cs++y.cs):=fun j u hj=>by
 rcases Nat.lt_or_ge j 19 with h |h
 ·rw [List.getElem?_append_left (by rw [x.len];exact h)] at hj
  exact⟨g,o,rfl,World.block_lt_of_cell? w _ (h1 j u hj),h1 j u hj⟩
 ·rw [List.getElem?_append_right (by rw [x.len];exact h),x.len] at hj
  have:=h2 _ u hj;rw [show o+19+(j - 19)=o+j by omega] at this;exact⟨g,o,rfl,World.block_lt_of_cell? w _ this,this⟩
def OrdOut (x y:Rc) (w:World) (e:Ending) (w':World):Prop:=(∃g c,e= .returned (.slice (some ⟨g,0,none⟩) 2 c)∧w.heap.size≤g∧Two w' g (srt x y).1 (srt x y).2)∧Below w.heap.size w w'
theorem Two.put14 {a w:World} {g:Nat} {x y:Rc} (h:Two w g x y) (hx:Bare x) (hy:Bare y) (hb:Below a.heap.size a w) (hg:a.heap.size≤g) (k:Nat) (hk:k=14∨k=33):
  w.cell? ⟨g,k,none⟩=some (.slice none 0 0)∧w.frozen? ⟨g,k,none⟩=false∧Two (w.setCell ⟨g,k,none⟩ (.slice none 0 0)) g x y∧Below a.heap.size a (w.setCell ⟨g,k,none⟩ (.slice none 0 0)):=by
 have hc:w.cell? ⟨g,k,none⟩=some (.slice none 0 0):=by
  rcases hk with rfl |rfl
  ·have:=h.at_.1 14 _ hx
   rwa [Nat.zero_add] at this
  ·exact h.at_.2 14 _ hy
 obtain⟨cur,h1,_,_⟩:=id h;exact⟨hc,Jab h1 _,h.same hc,hb.setCell (p:=⟨g,k,none⟩) hg _⟩
theorem Jfc (g0 o0 c0:Nat) (x y:Rc) (w:World) (hx:Bare x) (hy:Bare y) (h1:w.rangeAt g0 o0 x.cs) (h2:w.rangeAt g0 (o0+19) y.cs):
  Calls prog 55 #[.slice (some ⟨g0,o0,none⟩) 2 c0] w (OrdOut x y w):=by
 have HC:=Lib.hid (copy_rec (some ⟨g0,o0,none⟩) 2 c0 (x.cs++y.cs) w (Jkf h1 h2) (fun h=>by cases h) (by omega) (by rw [List.length_append,x.len,y.len]) (fun u hu=>by
   rcases List.mem_append.1 hu with h |h
   ·exact x.one u h
   ·exact y.one u h))
 have HX:=Lib.hid (And.intro hx hy);have HN:Hid (∀w',Calls prog 88 #[.slice none 0 0] w' fun e w''=>e= .returned (.slice none 0 0)∧w''=w'):=Lib.hid Jbj;clear h1 h2 hx hy;go_enter func55,ntmps55
 go_wp2_with fail
 refine HC.out.mono ?_;rintro e w1 ⟨⟨A,c,rfl,_,_,hown⟩,hb1⟩;obtain⟨g,rfl,hg,ht⟩:=Two.of_own hown;have HG:=Lib.hid hg;obtain⟨q0,f0,ht0,hb2⟩:=ht.put14 HX.out.1 HX.out.2 hb1 hg 14 (.inl rfl);obtain⟨W2,hW2⟩:=words.nm (w1.setCell ⟨g,14,none⟩ (.slice none 0 0));rw [←hW2] at ht0 hb2;obtain⟨q1,f1,ht1,hb3⟩:=ht0.put14 HX.out.1 HX.out.2 hb2 hg 33 (.inr rfl);obtain⟨W3,hW3⟩:=words.nm (W2.setCell ⟨g,33,none⟩ (.slice none 0 0));rw [←hW3] at ht1 hb3;have HS:=Lib.hid (Jk0 g c x y W3 ht1);have HB3:=Lib.hid hb3;have HW2:=Lib.hid hW2;have HW3:=Lib.hid hW3;clear hown hb1 hg ht ht0 hb2 ht1 hb3 hW2 hW3 HC;go_wp2_with fail
 refine wp_loop_rounds 3 ?_;rw [rounds_succ];go_wp2_with fail
 refine (HN.out _).mono ?_;rintro e w2 ⟨rfl,rfl⟩;go_wp2_with fail
 rw [←HW2.out];rw [rounds_succ];go_wp2_with fail
 refine (HN.out _).mono ?_;rintro e w2 ⟨rfl,rfl⟩;go_wp2_with fail
 rw [←HW3.out];rw [rounds_succ];go_wp2_with fail
 refine HS.out.mono ?_;rintro e w4 ⟨⟨u,rfl⟩,h1,h2⟩;have HE:Hid (OrdOut x y w (.returned (.slice (some ⟨g,0,none⟩) 2 c)) w4):=Lib.hid ⟨⟨g,c,rfl,HG.out,h1⟩,((lru.Tn.of_below HB3.out (fun j=>j=g)).then h2 (fun _ _ h=>h)).below (fun k hk=>by subst hk;exact HG.out) (Nat.le_refl _)⟩;clear h1 h2 HS;go_wp2_with fail
 go_ret
 exact HE.out

def Txs (w:World) (A:Option Addr) (Q:List ByteArray):Prop:=∀i x,Q[i]?=some x→∃b off,A=some ⟨b,off,none⟩∧b<w.heap.size∧w.cell? ⟨b,off+i,none⟩=some (.string x)
theorem Txs.later {w w':World} {A:Option Addr} {Q:List ByteArray} (h:Txs w A Q) (hb:Below w.heap.size w w'):Txs w' A Q:=fun i x hx=>by
 obtain⟨b,off,h1,h2,h3⟩:=h i x hx;exact⟨b,off,h1,Nat.lt_of_lt_of_le h2 hb.size,(hb.cell (p:=⟨b,off+i,none⟩) h2).trans h3⟩
theorem Txs.low {w w':World} {B:Nat} {A:Option Addr} {Q:List ByteArray} (h:Txs w A Q) (hl:∀b o,A=some ⟨b,o,none⟩→b<B) (hb:Below B w w'):Txs w' A Q:=fun i x hx=>by
 obtain⟨b,off,h1,h2,h3⟩:=h i x hx;exact⟨b,off,h1,Nat.lt_of_lt_of_le h2 hb.size,(hb.cell (p:=⟨b,off+i,none⟩) (hl b off h1)).trans h3⟩
theorem to_list {a b:ByteArray}:(a.toList==b.toList)=decide (a=b):=by
 rw [Bool.eq_iff_iff];simp only [beq_iff_eq,decide_eq_true_eq];rw [ByteArray.toList_eq,ByteArray.toList_eq];constructor
 ·intro h
  have:=Array.toList_inj.1 h;cases a;cases b;simp_all
 ·rintro rfl;rfl
theorem Jha {Q Q':List ByteArray} {k:Nat} (hn:Q.length=Q'.length) (hk:Q.length≤k) (h:∀j,j<k→Q[j]?=Q'[j]?):Q=Q':=by
 apply List.ext_getElem?;intro i;rcases Nat.lt_or_ge i k with h1 |h1
 ·exact h i h1
 ·rw [List.getElem?_eq_none (by omega),List.getElem?_eq_none (by omega)]
theorem Jih (A:Option Addr) (c:Nat) (Q:List ByteArray) (A':Option Addr) (c':Nat) (Q':List ByteArray) (w:World) (h:Txs w A Q) (h':Txs w A' Q') (hl:Q.length≤9223372036854775807) (hl':Q'.length≤9223372036854775807):
  Calls prog 126 #[.slice A Q.length c,.slice A' Q'.length c'] w fun e w'=>e= .returned (.bool (decide (Q=Q')))∧Below w.heap.size w w':=by
 have K1:=Lib.hid h;have K2:=Lib.hid h';clear h h';by_cases hn:Q.length=Q'.length
 ·have HN:=Lib.hid hn
  have hne:((Q.length:Int) !=(Q'.length:Int))=false:=by rw [hn];exact bne_self_eq_false _
  obtain⟨n',hn'⟩:∃n',n'=Q'.length:=⟨_,rfl⟩
  rw [←hn'] at hne ⊢;have HN':=Lib.hid hn';clear hn hn';go_enter func126,ntmps126
  go_wp2_with fail
  go_loopw [13] (fun v wr=>∃k:Nat,k≤Q.length∧v= .int .i64 (k:Int)∧Hid (∀j,j<k→Q[j]?=Q'[j]?)∧∃nd,wr=w.drewN nd) (fun v _=>Q.length - (intOf v).toNat)
  case atStart=>exact⟨0,Nat.zero_le _,rfl,Lib.hid fun j h=>absurd h (Nat.not_lt_zero _),0,rfl⟩
  case round=>
   obtain⟨k,hk,rfl,HE,nd,rfl⟩:=hrel;by_cases hlt:k<Q.length
   ·obtain⟨x,hx⟩:∃x,Q[k]?=some x:=⟨_,List.getElem?_eq_getElem hlt⟩
    obtain⟨y,hy⟩:∃y,Q'[k]?=some y:=⟨_,List.getElem?_eq_getElem (by rw [←HN.out];exact hlt)⟩
    obtain⟨b1,o1,rfl,_,d1⟩:=K1.out k x hx;obtain⟨b2,o2,rfl,_,d2⟩:=K2.out k y hy;have i0:(0:Int)≤(k:Int):=by omega
    have i1:(k:Int)<(Q.length:Int):=by omega
    have i2:(k:Int)<(n':Int):=by rw [HN'.out,←HN.out];omega
    have i3:k<n':=by omega
    by_cases hxy:x=y
    ·subst hxy
     have hxx:(x.toList !=x.toList)=false:=by simp
     have HE':Hid (∀j,j<k+1→Q[j]?=Q'[j]?):=Lib.hid fun j hj=>by
      rcases Nat.lt_or_ge j k with h |h
      ·exact HE.out j h
      ·obtain rfl:j=k:=by omega
       rw [hx,hy]
     clear hx hy;go_wp2_with fail
     go_quiet (fail)
     go_wp2
     go_roundw
     case rel=>exact⟨k+1,by omega,by go_num,HE',_,rfl⟩
     case measure=>simp [intOf];omega
    ·have hxx:(x.toList !=y.toList)=true:=by
      rw [bne,to_list];simp [hxy]
     have hxz:(x.toList==y.toList)=false:=by rw [to_list];simp [hxy]
     have hxt:¬x.toList=y.toList:=by
      have:=hxz;simpa using this
     have HF:Hid (decide (Q=Q')=false):=Lib.hid (by
       simp only [decide_eq_false_iff_not];rintro rfl;rw [hx] at hy;exact hxy (Option.some.inj hy))
     clear hx hy;go_wp2_with fail
     go_quiet (fail)
     go_wp2
     go_ret
     exact⟨by rw [HF.out];rfl,⟨rfl,rfl,rfl,Nat.le_refl _,fun _ _=>rfl⟩⟩
   ·have HF:Hid (decide (Q=Q')=true):=Lib.hid (by
      simp only [decide_eq_true_eq];exact Jha HN.out (by omega) HE.out)
    go_wp2
    go_ret
    exact⟨by rw [HF.out];rfl,⟨rfl,rfl,rfl,Nat.le_refl _,fun _ _=>rfl⟩⟩
 ·have hne:((Q.length:Int) !=(Q'.length:Int))=true:=by
   rw [bne_iff_ne];omega
  have HF:Hid (decide (Q=Q')=false):=Lib.hid (by
    simp only [decide_eq_false_iff_not];rintro rfl;exact hn rfl)
  have HN:=Lib.hid hn;clear hn;go_enter func126,ntmps126
  go_wp2_with fail
  go_ret
  exact⟨by rw [HF.out];rfl,Below.refl _ _⟩

def smB (r s:Rc):Bool:=decide (r.e=s.e∧r.rk=s.rk∧r.z=s.z∧r.wh=s.wh∧r.id=s.id∧r.x=s.x∧r.N=s.N∧r.fin=s.fin)
theorem Jer {a b:Int} (h:¬a=b):(a==b)=false∧(a !=b)=true:=by simp [h]
theorem Jda {a b:Int} (h:a=b):(a==b)=true∧(a !=b)=false:=by simp [h]
theorem Jmt {a b:ByteArray} (h:¬a=b):(a.toList==b.toList)=false∧(a.toList !=b.toList)=true:=by rw [bne,to_list];simp [h]
theorem Jls {a b:ByteArray} (h:a=b):(a.toList==b.toList)=true∧(a.toList !=b.toList)=false:=by rw [bne,to_list];simp [h]
theorem Jlt {a b:Bool} (h:¬a=b):(a==b)=false∧(a !=b)=true:=by simp [h]
theorem Jlb {a b:Bool} (h:a=b):(a==b)=true∧(a !=b)=false:=by simp [h]
theorem Jlc (r s:Rc) (w:World) (hr:Txs w r.A r.N) (hs:Txs w s.A s.N) (hl:r.N.length≤9223372036854775807) (hl':s.N.length≤9223372036854775807):
  Calls prog 89 #[.agg #[.int .i64 r.e,.int .i64 r.rk,.int .i64 r.z,.int .i64 r.wh,.int .i64 r.id,.string r.x,.slice r.A r.N.length r.c,.bool r.fin],.agg #[.int .i64 s.e,.int .i64 s.rk,.int .i64 s.z,.int .i64 s.wh,.int .i64 s.id,.string s.x,.slice s.A s.N.length s.c,.bool s.fin]] w fun en w'=>en= .returned (.bool (smB r s))∧Below w.heap.size w w':=by
 obtain⟨g1,W1,hW1,eg1,hxa,hxb,hb1,lg1⟩:=Jbk w (.cells #[.int .i64 r.e,.int .i64 r.rk,.int .i64 r.z,.int .i64 r.wh,.int .i64 r.id,.string r.x,.slice r.A r.N.length r.c,.bool r.fin] 57) (.cells #[.int .i64 s.e,.int .i64 s.rk,.int .i64 s.z,.int .i64 s.wh,.int .i64 s.id,.string s.x,.slice s.A s.N.length s.c,.bool s.fin] 57);obtain⟨n1,hn1⟩:=words.nm (r.N.length);obtain⟨n2,hn2⟩:=words.nm (s.N.length);rw [←hn1,←hn2] at hW1;rw [←hn1] at hxa;rw [←hn2] at hxb;have a0:=Jaa hxa 0;have b0:=Jaa hxb 0;have a1:=Jaa hxa 1;have b1:=Jaa hxb 1;have a2:=Jaa hxa 2;have b2:=Jaa hxb 2;have a3:=Jaa hxa 3;have b3:=Jaa hxb 3;have a4:=Jaa hxa 4;have b4:=Jaa hxb 4;have a5:=Jaa hxa 5;have b5:=Jaa hxb 5;have a6:=Jaa hxa 6;have b6:=Jaa hxb 6;have a7:=Jaa hxa 7;have b7:=Jaa hxb 7;have HQ:=Lib.hid (Jih r.A r.c r.N s.A s.c s.N W1 (hr.later hb1) (hs.later hb1) hl hl');have HB:=Lib.hid hb1;have HW:=Lib.hid hW1;have HE:=Lib.hid eg1;clear hxa hxb hb1 hW1 eg1 lg1 hr hs;rw [←hn1,←hn2];rw [←hn1,←hn2] at HQ;rw [←hn1] at hl;rw [←hn2] at hl';have HN1:=Lib.hid hn1;have HN2:=Lib.hid hn2;clear hn1 hn2;go_enter func89,ntmps89
 go_upto_region 1 with fail
 rw [HW.out];simp only [HE.out];clear HW HE;by_cases he:r.e=s.e
 rotate_left 1
 ·obtain⟨u1,u2⟩:=Jer he
  have HF:Hid (smB r s=false):=Lib.hid (by unfold smB;simp only [decide_eq_false_iff_not];exact fun h=>he h.1);have u3:=he;clear he;go_wp2_with fail
  go_ret
  exact⟨by rw [HF.out];rfl,HB.out⟩
 obtain⟨pe,qe⟩:=Jda he;have He:=Lib.hid he;clear he;by_cases hrk:r.rk=s.rk
 rotate_left 1
 ·obtain⟨u1,u2⟩:=Jer hrk
  have HF:Hid (smB r s=false):=Lib.hid (by unfold smB;simp only [decide_eq_false_iff_not];exact fun h=>hrk h.2.1);have u3:=hrk;clear hrk;go_wp2_with fail
  go_ret
  exact⟨by rw [HF.out];rfl,HB.out⟩
 obtain⟨prk,qrk⟩:=Jda hrk;have Hrk:=Lib.hid hrk;clear hrk;by_cases hz:r.z=s.z
 rotate_left 1
 ·obtain⟨u1,u2⟩:=Jer hz
  have HF:Hid (smB r s=false):=Lib.hid (by unfold smB;simp only [decide_eq_false_iff_not];exact fun h=>hz h.2.2.1);have u3:=hz;clear hz;go_wp2_with fail
  go_ret
  exact⟨by rw [HF.out];rfl,HB.out⟩
 obtain⟨pz,qz⟩:=Jda hz;have Hz:=Lib.hid hz;clear hz;by_cases hwh:r.wh=s.wh
 rotate_left 1
 ·obtain⟨u1,u2⟩:=Jer hwh
  have HF:Hid (smB r s=false):=Lib.hid (by unfold smB;simp only [decide_eq_false_iff_not];exact fun h=>hwh h.2.2.2.1);have u3:=hwh;clear hwh;go_wp2_with fail
  go_ret
  exact⟨by rw [HF.out];rfl,HB.out⟩
 obtain⟨pwh,qwh⟩:=Jda hwh;have Hwh:=Lib.hid hwh;clear hwh;by_cases hid:r.id=s.id
 rotate_left 1
 ·obtain⟨u1,u2⟩:=Jer hid
  have HF:Hid (smB r s=false):=Lib.hid (by unfold smB;simp only [decide_eq_false_iff_not];exact fun h=>hid h.2.2.2.2.1);have u3:=hid;clear hid;go_wp2_with fail
  go_ret
  exact⟨by rw [HF.out];rfl,HB.out⟩
 obtain⟨pid,qid⟩:=Jda hid;have Hqid:=Lib.hid hid;clear hid;by_cases hx:r.x=s.x
 rotate_left 1
 ·obtain⟨u1,u2⟩:=Jmt hx
  have HF:Hid (smB r s=false):=Lib.hid (by unfold smB;simp only [decide_eq_false_iff_not];exact fun h=>hx h.2.2.2.2.2.1);have u3:=hx;clear hx;go_wp2_with fail
  go_ret
  exact⟨by rw [HF.out];rfl,HB.out⟩
 obtain⟨px,qx⟩:=Jls hx;have Hx:=Lib.hid hx;clear hx;have HF:Hid (smB r s=(decide (r.N=s.N)&&decide (r.fin=s.fin))):=Lib.hid (by
   unfold smB;rw [Bool.eq_iff_iff];simp only [decide_eq_true_eq,Bool.and_eq_true];exact⟨fun h=>h.2.2.2.2.2.2,fun h=>⟨He.out,Hrk.out,Hz.out,Hwh.out,Hqid.out,Hx.out,h.1,h.2⟩⟩)
 by_cases hN:r.N=s.N
 ·have hNt:decide (r.N=s.N)=true:=by simp [hN]
  rw [hNt] at HQ HF;clear hN hNt;by_cases hfin:r.fin=s.fin
  ·obtain⟨u1,u2⟩:=Jlb hfin
   have hft:decide (r.fin=s.fin)=true:=by simp [hfin]
   rw [hft] at HF;have HFn:=Lib.hid hfin;clear hfin hft;go_wp2_with fail
   refine HQ.out.mono ?_;rintro en w2 ⟨rfl,hb2⟩;have HB2:=Lib.hid (HB.out.trans (hb2.mono HB.out.size));have d7:=(hb2.cell (p:=⟨w.heap.size,7,none⟩) (World.block_lt_of_cell? W1 _ a7)).trans a7;have e7:=(hb2.cell (p:=⟨g1,7,none⟩) (World.block_lt_of_cell? W1 _ b7)).trans b7;clear hb2 HQ;go_wp2_with fail
   go_ret
   exact⟨by rw [HF.out,HFn.out];simp,HB2.out⟩
  ·obtain⟨u1,u2⟩:=Jlt hfin
   have hft:decide (r.fin=s.fin)=false:=by simp [hfin]
   rw [hft] at HF;clear hfin hft;go_wp2_with fail
   refine HQ.out.mono ?_;rintro en w2 ⟨rfl,hb2⟩;have HB2:=Lib.hid (HB.out.trans (hb2.mono HB.out.size));have d7:=(hb2.cell (p:=⟨w.heap.size,7,none⟩) (World.block_lt_of_cell? W1 _ a7)).trans a7;have e7:=(hb2.cell (p:=⟨g1,7,none⟩) (World.block_lt_of_cell? W1 _ b7)).trans b7;clear hb2 HQ;go_wp2_with fail
   go_ret
   exact⟨by rw [HF.out];simp,HB2.out⟩
 ·have hNt:decide (r.N=s.N)=false:=by simp [hN]
  rw [hNt] at HQ HF;clear hN hNt;go_wp2_with fail
  refine HQ.out.mono ?_;rintro en w2 ⟨rfl,hb2⟩;have HB2:=Lib.hid (HB.out.trans (hb2.mono HB.out.size));clear hb2 HQ;go_wp2_with fail
  go_ret
  exact⟨by rw [HF.out];simp,HB2.out⟩

def ans (e:Int):Rc:=⟨0,0,0,⟨#[]⟩,0,0,0,⟨#[]⟩,e,0,0,0,0,⟨#[]⟩,[],false,0,0,0,none,0⟩
theorem Bare.parts {x:Rc} (h:Bare x):x.A=none∧x.N=[]∧x.c=0:=by
 have h2:some (Value.slice x.A x.N.length x.c)=some (.slice none 0 0):=h;injection h2 with h2;injection h2 with h3 h4 h5;exact⟨h3,List.eq_nil_of_length_eq_zero h4,h5⟩
def SpT (s t m:Nat) (w:World):Prop:=Sp 0 s t m none 0 [] 0 0 1 0 [] w
def DoT (s t m:Nat) (op r:Value):Prop:=∀w,SpT s t m w→Calls prog 158 #[.pointer (some ⟨s,0,none⟩),op] w fun e w'=>e= .returned r∧SpT s t m w'∧lru.Tn (Bs s t m) w w'
theorem m_do (a:Addr) (w:World):Sem.run prog (method 561 80 (.pointer (some a)) "Do") w= .ok (158,.pointer (some a)) w:=by kernel_rfl
structure Fine (last:Int) (x:Rc):Prop where
 m0:last<x.ma
 m1:x.ca≤x.ma
 m2:x.ma≤x.re
theorem same_bare {x:Rc} {e:Int} {b:Bool} (h:Bare x) (hb:smB x (ans e)=b) (w:World):Calls prog 89 #[.agg #[.int .i64 x.e,.int .i64 x.rk,.int .i64 x.z,.int .i64 x.wh,.int .i64 x.id,.string x.x,.slice x.A x.N.length x.c,.bool x.fin],.agg #[.int .i64 e,.int .i64 0,.int .i64 0,.int .i64 0,.int .i64 0,.string ⟨#[]⟩,.slice none 0 0,.bool false]] w fun en w'=>en= .returned (.bool b)∧Below w.heap.size w w':=by
 obtain⟨h1,h2,h3⟩:=h.parts;have:=Jlc x (ans e) w (by rw [h2];exact fun i y hy=>by simp at hy) (fun i y hy=>by cases hy) (by rw [h2];simp) (by show 0≤_;omega);rw [hb] at this;exact this
theorem Jil (b:Bool) (s t m g c:Nat) (x y:Rc) (ex ey:Int) (w:World) (hT:Two w g x y) (hS:SpT s t m w) (hne:Hid (¬Bs s t m g)) (hfx:Fine 0 x) (hfy:Fine x.ma y) (hbx:Bare x) (hby:Bare y)
  (hdx:DoT s t m (.agg #[.int .i64 x.k,.string x.p,.int .i64 x.o,.int .i64 x.n,.int .i64 x.i,.string x.g]) (.agg #[.int .i64 ex,.int .i64 0,.int .i64 0,.int .i64 0,.int .i64 0,.string ⟨#[]⟩,.slice none 0 0,.bool false])) (hsx:smB x (ans ex)=true)
  (hdy:DoT s t m (.agg #[.int .i64 y.k,.string y.p,.int .i64 y.o,.int .i64 y.n,.int .i64 y.i,.string y.g]) (.agg #[.int .i64 ey,.int .i64 0,.int .i64 0,.int .i64 0,.int .i64 0,.string ⟨#[]⟩,.slice none 0 0,.bool false])) (hsy:smB y (ans ey)=b):
  Calls prog 53 #[.iface 80 (.pointer (some ⟨s,0,none⟩)),.slice (some ⟨g,0,none⟩) 2 c] w fun e w'=>e= .returned (.int .i64 (if b then -1 else 1))∧lru.Tn (Bs s t m) w w':=by
 have HT:=Lib.hid hT;have HS:=Lib.hid hS;have HFx:=Lib.hid hfx;have HFy:=Lib.hid hfy;have HDx:=Lib.hid hdx;have HDy:=Lib.hid hdy;have HSmx:=Lib.hid (same_bare hbx hsx);have HSmy:=Lib.hid (same_bare hby hsy);unfold DoT at HDx HDy;clear hT hS hfx hfy hbx hby hdx hsx hdy hsy;go_enter func53,ntmps53
 go_wp2_with fail
 refine wp_loop_rounds 3 ?_;obtain⟨wa,hwa⟩:=words.nm (w.alloc (.cells #[.int .i64 x.cl,.int .i64 x.ix,.int .i64 x.k,.string x.p,.int .i64 x.o,.int .i64 x.n,.int .i64 x.i,.string x.g,.int .i64 x.e,.int .i64 x.rk,.int .i64 x.z,.int .i64 x.wh,.int .i64 x.id,.string x.x,.slice x.A x.N.length x.c,.bool x.fin,.int .i64 x.ca,.int .i64 x.ma,.int .i64 x.re] 59));have hb0:=words.b1 hwa;have HX0:=Lib.hid (show wa.heap[w.heap.size]?=some (.cells #[.int .i64 x.cl,.int .i64 x.ix,.int .i64 x.k,.string x.p,.int .i64 x.o,.int .i64 x.n,.int .i64 x.i,.string x.g,.int .i64 x.e,.int .i64 x.rk,.int .i64 x.z,.int .i64 x.wh,.int .i64 x.id,.string x.x,.slice x.A x.N.length x.c,.bool x.fin,.int .i64 x.ca,.int .i64 x.ma,.int .i64 x.re] 59 (0,0)) by rw [hwa];exact heap_alloc_new w _);obtain⟨g0,hg0⟩:=words.nm (w.heap.size);rw [←hg0] at HX0;have HR0:Hid (w.rangeAt g 0 x.cs):=Lib.hid HT.out.at_.1;have HSS0:Hid (∀w',SpT s t m w'→lru.Tn (Bs s t m) wa w'→(w'.heap[g0]?=some (.cells #[.int .i64 x.cl,.int .i64 x.ix,.int .i64 x.k,.string x.p,.int .i64 x.o,.int .i64 x.n,.int .i64 x.i,.string x.g,.int .i64 x.e,.int .i64 x.rk,.int .i64 x.z,.int .i64 x.wh,.int .i64 x.id,.string x.x,.slice x.A x.N.length x.c,.bool x.fin,.int .i64 x.ca,.int .i64 x.ma,.int .i64 x.re] 59 (0,0))∧SpT s t m w'∧lru.Tn (Bs s t m) wa w')):=Lib.hid fun w' h1 h2=>⟨(h2.block g0 (lt_of_some HX0.out) (fun hj=>by
     have hlt:=HS.out.lt;rcases hj with hj |hj |hj
     ·have:=hlt.1;omega
     ·have:=hlt.2.1;omega
     ·have:=hlt.2.2;omega)).trans HX0.out,h1,h2⟩
 have HSa0:Hid (SpT s t m wa):=Lib.hid (HS.out.later hb0);have HTa0:Hid (Two wa g x y):=Lib.hid (HT.out.later hb0);have HBa0:=Lib.hid hb0;have HW0:=Lib.hid hwa;have HGg0:=Lib.hid hg0;clear hwa hb0 hg0;rw [rounds_succ];go_upto_region 5 with (first |(refine wl_load rfl rfl rfl HR0.out ?_) |(refine wl_put (r:=x) rfl rfl rfl rfl rfl ?_))
 rw [←HW0.out];simp only [←HGg0.out];clear HW0;have t0:¬x.ma≤0:=by have:=HFx.out.m0;omega
 have t1:¬x.ma<x.ca:=by have:=HFx.out.m1;omega
 have t2:¬x.re<x.ma:=by have:=HFx.out.m2;omega
 have t3:decide (x.ma≤0)=false:=by simp;omega
 have t4:decide (x.ma<x.ca)=false:=by simp;omega
 have t5:decide (x.re<x.ma)=false:=by simp;omega
 have hm:=fun w=>m_do ⟨s,0,none⟩ w;have HSd0:Hid (SpT s t m wa.drew):=Lib.hid (HSa0.out.later (Below.refl _ _).drew);have HTd0:Hid (lru.Tn (Bs s t m) wa wa.drew):=Lib.hid (lru.Tn.refl _ _).drew
 as_aux_lemma=>
  refine wp_region_held_drew (S:=(fun w'=>w'.heap[g0]?=some (.cells #[.int .i64 x.cl,.int .i64 x.ix,.int .i64 x.k,.string x.p,.int .i64 x.o,.int .i64 x.n,.int .i64 x.i,.string x.g,.int .i64 x.e,.int .i64 x.rk,.int .i64 x.z,.int .i64 x.wh,.int .i64 x.id,.string x.x,.slice x.A x.N.length x.c,.bool x.fin,.int .i64 x.ca,.int .i64 x.ma,.int .i64 x.re] 59 (0,0))∧SpT s t m w'∧lru.Tn (Bs s t m) wa w')) (by kernel_rfl) (HSS0.out _ HSd0.out HTd0.out) (fun hHeld=>?_);refine wpAnyH_take (i:=0) (oi:=⟨some 15,_,_,_,_,_⟩) (v:=?_) rfl (by kernel_rfl) (by kernel_rfl) (by kernel_rfl) (fun _ _ _ h=>h) (Or.inl ⟨by kernel_rfl,?_⟩) (by assumption) ?_
  rotate_left 1
  focus (intro w' hSw;clear hSw;go_simp;(try with_reducible rfl))
  try simp only [Act.put,List.setIfInBounds_toArray,List.set_cons_zero,List.set_cons_succ]
  refine wpAnyH_take (i:=1) (oi:=⟨some 16,_,_,_,_,_⟩) (v:=?_) rfl (by kernel_rfl) (by kernel_rfl) (by kernel_rfl) (fun _ _ _ h=>h) (Or.inl ⟨by kernel_rfl,?_⟩) (by assumption) ?_
  rotate_left 1
  focus (intro w' hSw;have hSw:=hSw.1;have c17:=Jaa hSw 17;clear hSw;go_simp;(try with_reducible rfl))
  try simp only [Act.put,List.setIfInBounds_toArray,List.set_cons_zero,List.set_cons_succ]
  refine wpAnyH_take (i:=2) (oi:=⟨some 17,_,_,_,_,_⟩) (v:=?_) rfl (by kernel_rfl) (by kernel_rfl) (by kernel_rfl) (fun _ _ _ h=>h) (Or.inl ⟨by kernel_rfl,?_⟩) (by assumption) ?_
  rotate_left 1
  focus (intro w' hSw;clear hSw;go_simp;(try with_reducible rfl))
  try simp only [Act.put,List.setIfInBounds_toArray,List.set_cons_zero,List.set_cons_succ]
  refine wpAnyH_take (i:=3) (oi:=⟨some 18,_,_,_,_,_⟩) (v:=?_) rfl (by kernel_rfl) (by kernel_rfl) (by kernel_rfl) (fun _ _ _ h=>h) (Or.inl ⟨by kernel_rfl,?_⟩) (by assumption) ?_
  rotate_left 1
  focus (intro w' hSw;clear hSw;go_simp;(try with_reducible rfl))
  try simp only [Act.put,List.setIfInBounds_toArray,List.set_cons_zero,List.set_cons_succ]
  refine wpAnyH_take (i:=4) (oi:=⟨some 19,_,_,_,_,_⟩) (v:=?_) rfl (by kernel_rfl) (by kernel_rfl) (by kernel_rfl) (fun _ _ _ h=>h) (Or.inl ⟨by kernel_rfl,?_⟩) (by assumption) ?_
  rotate_left 1
  focus (intro w' hSw;clear hSw;go_simp;(try with_reducible rfl))
  try simp only [Act.put,List.setIfInBounds_toArray,List.set_cons_zero,List.set_cons_succ]
  refine wpAnyH_take (i:=5) (oi:=⟨some 20,_,_,_,_,_⟩) (v:=?_) rfl (by kernel_rfl) (by kernel_rfl) (by kernel_rfl) (fun _ _ _ h=>h) (Or.inl ⟨by kernel_rfl,?_⟩) (by assumption) ?_
  rotate_left 1
  focus (intro w' hSw;clear hSw;go_simp;(try with_reducible rfl))
  try simp only [Act.put,List.setIfInBounds_toArray,List.set_cons_zero,List.set_cons_succ]
  refine wpAnyH_take (i:=6) (oi:=⟨some 21,_,_,_,_,_⟩) (v:=?_) rfl (by kernel_rfl) (by kernel_rfl) (by kernel_rfl) (fun _ _ _ h=>h) (Or.inl ⟨by kernel_rfl,?_⟩) (by assumption) ?_
  rotate_left 1
  focus (intro w' hSw;have hSw:=hSw.1;have c17:=Jaa hSw 17;clear hSw;go_simp;(try with_reducible rfl))
  try simp only [Act.put,List.setIfInBounds_toArray,List.set_cons_zero,List.set_cons_succ]
  refine wpAnyH_take (i:=7) (oi:=⟨some 22,_,_,_,_,_⟩) (v:=?_) rfl (by kernel_rfl) (by kernel_rfl) (by kernel_rfl) (fun _ _ _ h=>h) (Or.inl ⟨by kernel_rfl,?_⟩) (by assumption) ?_
  rotate_left 1
  focus (intro w' hSw;clear hSw;go_simp;(try with_reducible rfl))
  try simp only [Act.put,List.setIfInBounds_toArray,List.set_cons_zero,List.set_cons_succ]
  refine wpAnyH_take (i:=8) (oi:=⟨some 23,_,_,_,_,_⟩) (v:=?_) rfl (by kernel_rfl) (by kernel_rfl) (by kernel_rfl) (fun _ _ _ h=>h) (Or.inl ⟨by kernel_rfl,?_⟩) (by assumption) ?_
  rotate_left 1
  focus (intro w' hSw;have hSw:=hSw.1;have c16:=Jaa hSw 16;clear hSw;go_simp;(try with_reducible rfl))
  try simp only [Act.put,List.setIfInBounds_toArray,List.set_cons_zero,List.set_cons_succ]
  refine wpAnyH_take (i:=9) (oi:=⟨some 24,_,_,_,_,_⟩) (v:=?_) rfl (by kernel_rfl) (by kernel_rfl) (by kernel_rfl) (fun _ _ _ h=>h) (Or.inl ⟨by kernel_rfl,?_⟩) (by assumption) ?_
  rotate_left 1
  focus (intro w' hSw;clear hSw;go_simp;(try with_reducible rfl))
  try simp only [Act.put,List.setIfInBounds_toArray,List.set_cons_zero,List.set_cons_succ]
  refine wpAnyH_take (i:=10) (oi:=⟨some 25,_,_,_,_,_⟩) (v:=?_) rfl (by kernel_rfl) (by kernel_rfl) (by kernel_rfl) (fun _ _ _ h=>h) (Or.inl ⟨by kernel_rfl,?_⟩) (by assumption) ?_
  rotate_left 1
  focus (intro w' hSw;clear hSw;go_simp;(try with_reducible rfl))
  try simp only [Act.put,List.setIfInBounds_toArray,List.set_cons_zero,List.set_cons_succ]
  refine wpAnyH_take (i:=11) (oi:=⟨some 26,_,_,_,_,_⟩) (v:=?_) rfl (by kernel_rfl) (by kernel_rfl) (by kernel_rfl) (fun _ _ _ h=>h) (Or.inl ⟨by kernel_rfl,?_⟩) (by assumption) ?_
  rotate_left 1
  focus (intro w' hSw;clear hSw;go_simp;(try with_reducible rfl))
  try simp only [Act.put,List.setIfInBounds_toArray,List.set_cons_zero,List.set_cons_succ]
  refine wpAnyH_take (i:=12) (oi:=⟨some 27,_,_,_,_,_⟩) (v:=?_) rfl (by kernel_rfl) (by kernel_rfl) (by kernel_rfl) (fun _ _ _ h=>h) (Or.inl ⟨by kernel_rfl,?_⟩) (by assumption) ?_
  rotate_left 1
  focus (intro w' hSw;clear hSw;go_simp;(try with_reducible rfl))
  try simp only [Act.put,List.setIfInBounds_toArray,List.set_cons_zero,List.set_cons_succ]
  refine wpAnyH_take (i:=13) (oi:=⟨some 28,_,_,_,_,_⟩) (v:=?_) rfl (by kernel_rfl) (by kernel_rfl) (by kernel_rfl) (fun _ _ _ h=>h) (Or.inl ⟨by kernel_rfl,?_⟩) (by assumption) ?_
  rotate_left 1
  focus (intro w' hSw;have hSw:=hSw.1;have c17:=Jaa hSw 17;clear hSw;go_simp;(try with_reducible rfl))
  try simp only [Act.put,List.setIfInBounds_toArray,List.set_cons_zero,List.set_cons_succ]
  refine wpAnyH_take (i:=14) (oi:=⟨some 29,_,_,_,_,_⟩) (v:=?_) rfl (by kernel_rfl) (by kernel_rfl) (by kernel_rfl) (fun _ _ _ h=>h) (Or.inl ⟨by kernel_rfl,?_⟩) (by assumption) ?_
  rotate_left 1
  focus (intro w' hSw;clear hSw;go_simp;(try with_reducible rfl))
  try simp only [Act.put,List.setIfInBounds_toArray,List.set_cons_zero,List.set_cons_succ]
  refine wpAnyH_take (i:=15) (oi:=⟨some 30,_,_,_,_,_⟩) (v:=?_) rfl (by kernel_rfl) (by kernel_rfl) (by kernel_rfl) (fun _ _ _ h=>h) (Or.inl ⟨by kernel_rfl,?_⟩) (by assumption) ?_
  rotate_left 1
  focus (intro w' hSw;have hSw:=hSw.1;have c18:=Jaa hSw 18;clear hSw;go_simp;(try with_reducible rfl))
  try simp only [Act.put,List.setIfInBounds_toArray,List.set_cons_zero,List.set_cons_succ]
  refine wpAnyH_take (i:=16) (oi:=⟨some 31,_,_,_,_,_⟩) (v:=?_) rfl (by kernel_rfl) (by kernel_rfl) (by kernel_rfl) (fun _ _ _ h=>h) (Or.inl ⟨by kernel_rfl,?_⟩) (by assumption) ?_
  rotate_left 1
  focus (intro w' hSw;clear hSw;go_simp;(try with_reducible rfl))
  try simp only [Act.put,List.setIfInBounds_toArray,List.set_cons_zero,List.set_cons_succ]
  refine wpAnyH_take (i:=17) (oi:=⟨some 32,_,_,_,_,_⟩) (v:=?_) rfl (by kernel_rfl) (by kernel_rfl) (by kernel_rfl) (fun _ _ _ h=>h) (Or.inl ⟨by kernel_rfl,?_⟩) (by assumption) ?_
  rotate_left 1
  focus (intro w' hSw;clear hSw;go_simp;(try with_reducible rfl))
  try simp only [Act.put,List.setIfInBounds_toArray,List.set_cons_zero,List.set_cons_succ]
  refine wpAnyH_take (i:=18) (oi:=⟨some 33,_,_,_,_,_⟩) (v:=?_) rfl (by kernel_rfl) (by kernel_rfl) (by kernel_rfl) (fun _ _ _ h=>h) (Or.inl ⟨by kernel_rfl,?_⟩) (by assumption) ?_
  rotate_left 1
  focus (intro w' hSw;clear hSw;go_simp;(try with_reducible rfl))
  try simp only [Act.put,List.setIfInBounds_toArray,List.set_cons_zero,List.set_cons_succ]
  refine wpAnyH_take (i:=19) (oi:=⟨some 34,_,_,_,_,_⟩) (v:=?_) rfl (by kernel_rfl) (by kernel_rfl) (by kernel_rfl) (fun _ _ _ h=>h) (Or.inl ⟨by kernel_rfl,?_⟩) (by assumption) ?_
  rotate_left 1
  focus (intro w' hSw;clear hSw;go_simp;(try with_reducible rfl))
  try simp only [Act.put,List.setIfInBounds_toArray,List.set_cons_zero,List.set_cons_succ]
  refine wpAnyH_take (i:=20) (oi:=⟨some 35,_,_,_,_,_⟩) (v:=?_) rfl (by kernel_rfl) (by kernel_rfl) (by kernel_rfl) (fun _ _ _ h=>h) (Or.inl ⟨by kernel_rfl,?_⟩) (by assumption) ?_
  rotate_left 1
  focus (intro w' hSw;have hSw:=hSw.1;have c8:=Jaa hSw 8;have c9:=Jaa hSw 9;have c10:=Jaa hSw 10;have c11:=Jaa hSw 11;have c12:=Jaa hSw 12;have c13:=Jaa hSw 13;have c14:=Jaa hSw 14;have c15:=Jaa hSw 15;clear hSw;go_simp;(try with_reducible rfl))
  try simp only [Act.put,List.setIfInBounds_toArray,List.set_cons_zero,List.set_cons_succ]
  refine wpAnyH_take (i:=21) (oi:=⟨some 36,_,_,_,_,_⟩) (v:=?_) rfl (by kernel_rfl) (by kernel_rfl) (by kernel_rfl) (fun _ _ _ h=>h) (Or.inl ⟨by kernel_rfl,?_⟩) (by assumption) ?_
  rotate_left 1
  focus (intro w' hSw;clear hSw;go_simp;(try with_reducible rfl))
  try simp only [Act.put,List.setIfInBounds_toArray,List.set_cons_zero,List.set_cons_succ]
  refine wpAnyH_take (i:=22) (oi:=⟨some 37,_,_,_,_,_⟩) (v:=?_) rfl (by kernel_rfl) (by kernel_rfl) (by kernel_rfl) (fun _ _ _ h=>h) (Or.inl ⟨by kernel_rfl,?_⟩) (by assumption) ?_
  rotate_left 1
  focus (intro w' hSw;clear hSw;go_simp;(try with_reducible rfl))
  try simp only [Act.put,List.setIfInBounds_toArray,List.set_cons_zero,List.set_cons_succ]
  refine wpAnyH_take (i:=23) (oi:=⟨some 38,_,_,_,_,_⟩) (v:=?_) rfl (by kernel_rfl) (by kernel_rfl) (by kernel_rfl) (fun _ _ _ h=>h) (Or.inl ⟨by kernel_rfl,?_⟩) (by assumption) ?_
  rotate_left 1
  focus (intro w' hSw;have hSw:=hSw.1;have c2:=Jaa hSw 2;have c3:=Jaa hSw 3;have c4:=Jaa hSw 4;have c5:=Jaa hSw 5;have c6:=Jaa hSw 6;have c7:=Jaa hSw 7;clear hSw;go_simp;(try with_reducible rfl))
  try simp only [Act.put,List.setIfInBounds_toArray,List.set_cons_zero,List.set_cons_succ]
  refine wpAnyH_ready (rs:=[24]) (by kernel_rfl) (by simp) (.cons rfl (fun K hK=>?_) .nil);go_simp
  go_at_call 158
  refine (HDx.out wa.drew HSd0.out).mono ?_;rintro en u1 ⟨rfl,hsp,htn⟩;clear hHeld;refine hK.out _ _ (HSS0.out u1 hsp (HTd0.out.trans htn)) (fun hHeld=>?_);clear hK;refine wpAnyH_ready (rs:=[25]) (by kernel_rfl) (by simp) (.cons rfl (fun K hK=>?_) .nil);go_simp
  go_at_call 89
  refine (HSmx.out u1).mono ?_;rintro en u2 ⟨rfl,hu2⟩;clear hHeld;refine hK.out _ _ (HSS0.out u2 (hsp.later hu2) ((HTd0.out.trans htn).trans (lru.Tn.of_below hu2 _))) (fun hHeld=>?_);clear hK;refine wpAnyH_take (i:=26) (oi:=⟨some 41,_,_,_,_,_⟩) (v:=?_) rfl (by kernel_rfl) (by kernel_rfl) (by kernel_rfl) (fun _ _ _ h=>h) (Or.inl ⟨by kernel_rfl,?_⟩) (by assumption) ?_
  rotate_left 1
  focus (intro w' hSw;clear hSw;go_simp;(try with_reducible rfl))
  try simp only [Act.put,List.setIfInBounds_toArray,List.set_cons_zero,List.set_cons_succ]
  refine wpAnyH_take (i:=27) (oi:=⟨some 42,_,_,_,_,_⟩) (v:=?_) rfl (by kernel_rfl) (by kernel_rfl) (by kernel_rfl) (fun _ _ _ h=>h) (Or.inl ⟨by kernel_rfl,?_⟩) (by assumption) ?_
  rotate_left 1
  focus (intro w' hSw;clear hSw;go_simp;(try with_reducible rfl))
  try simp only [Act.put,List.setIfInBounds_toArray,List.set_cons_zero,List.set_cons_succ]
  refine wpAnyH_done (by kernel_rfl) ?_ _;clear hHeld hm t0 t1 t2 t3 t4 t5
  as_aux_lemma=>
   have htq0:=(HTd0.out.trans htn).trans (lru.Tn.of_below hu2 _);have HTn0:Hid (lru.Tn (Bs s t m) w u2):=Lib.hid ((lru.Tn.of_below HBa0.out _).trans htq0);have HSn0:Hid (SpT s t m u2):=Lib.hid (hsp.later hu2);have HTw0:Hid (Two u2 g x y):=Lib.hid (HTa0.out.block (htq0.block g HTa0.out.lt hne.out));have p5:=Jaa (HSS0.out u2 HSn0.out htq0).1 17;clear hsp htn hu2 htq0;go_wp2_with fail
   clear p5;obtain⟨u2a,hu2a⟩:=words.nm (u2.alloc (.cells #[.int .i64 y.cl,.int .i64 y.ix,.int .i64 y.k,.string y.p,.int .i64 y.o,.int .i64 y.n,.int .i64 y.i,.string y.g,.int .i64 y.e,.int .i64 y.rk,.int .i64 y.z,.int .i64 y.wh,.int .i64 y.id,.string y.x,.slice y.A y.N.length y.c,.bool y.fin,.int .i64 y.ca,.int .i64 y.ma,.int .i64 y.re] 59));have hb1:Below u2.heap.size u2 u2a:=words.b1 hu2a;have HX1:=Lib.hid (show u2a.heap[u2.heap.size]?=some (.cells #[.int .i64 y.cl,.int .i64 y.ix,.int .i64 y.k,.string y.p,.int .i64 y.o,.int .i64 y.n,.int .i64 y.i,.string y.g,.int .i64 y.e,.int .i64 y.rk,.int .i64 y.z,.int .i64 y.wh,.int .i64 y.id,.string y.x,.slice y.A y.N.length y.c,.bool y.fin,.int .i64 y.ca,.int .i64 y.ma,.int .i64 y.re] 59 (0,0)) by rw [hu2a];exact heap_alloc_new u2 _);obtain⟨g1,hg1⟩:=words.nm (u2.heap.size);rw [←hg1] at HX1;have HR1:Hid (u2.rangeAt g 19 y.cs):=Lib.hid HTw0.out.at_.2;have HSS1:Hid (∀w',SpT s t m w'→lru.Tn (Bs s t m) u2a w'→(w'.heap[g1]?=some (.cells #[.int .i64 y.cl,.int .i64 y.ix,.int .i64 y.k,.string y.p,.int .i64 y.o,.int .i64 y.n,.int .i64 y.i,.string y.g,.int .i64 y.e,.int .i64 y.rk,.int .i64 y.z,.int .i64 y.wh,.int .i64 y.id,.string y.x,.slice y.A y.N.length y.c,.bool y.fin,.int .i64 y.ca,.int .i64 y.ma,.int .i64 y.re] 59 (0,0))∧SpT s t m w'∧lru.Tn (Bs s t m) u2a w')):=Lib.hid fun w' h1 h2=>⟨(h2.block g1 (lt_of_some HX1.out) (fun hj=>by
       have hlt:=HSn0.out.lt;rcases hj with hj |hj |hj
       ·have:=hlt.1;omega
       ·have:=hlt.2.1;omega
       ·have:=hlt.2.2;omega)).trans HX1.out,h1,h2⟩
   have HSa1:Hid (SpT s t m u2a):=Lib.hid (HSn0.out.later hb1);have HTa1:Hid (Two u2a g x y):=Lib.hid (HTw0.out.later hb1);have HBa1:=Lib.hid hb1;have HW1:=Lib.hid hu2a;have HGg1:=Lib.hid hg1;clear hu2a hb1 hg1;rw [rounds_succ];go_upto_region 5 with (first |(refine wl_load rfl rfl rfl HR1.out ?_) |(refine wl_put (r:=y) rfl rfl rfl rfl rfl ?_))
   rw [←HW1.out];simp only [←HGg1.out];clear HW1;have t0:¬y.ma≤x.ma:=by have:=HFy.out.m0;omega
   have t1:¬y.ma<y.ca:=by have:=HFy.out.m1;omega
   have t2:¬y.re<y.ma:=by have:=HFy.out.m2;omega
   have t3:decide (y.ma≤x.ma)=false:=by simp;omega
   have t4:decide (y.ma<y.ca)=false:=by simp;omega
   have t5:decide (y.re<y.ma)=false:=by simp;omega
   have hm:=fun w=>m_do ⟨s,0,none⟩ w;have HSd1:Hid (SpT s t m u2a.drew):=Lib.hid (HSa1.out.later (Below.refl _ _).drew);have HTd1:Hid (lru.Tn (Bs s t m) u2a u2a.drew):=Lib.hid (lru.Tn.refl _ _).drew
   as_aux_lemma=>
    refine wp_region_held_drew (S:=(fun w'=>w'.heap[g1]?=some (.cells #[.int .i64 y.cl,.int .i64 y.ix,.int .i64 y.k,.string y.p,.int .i64 y.o,.int .i64 y.n,.int .i64 y.i,.string y.g,.int .i64 y.e,.int .i64 y.rk,.int .i64 y.z,.int .i64 y.wh,.int .i64 y.id,.string y.x,.slice y.A y.N.length y.c,.bool y.fin,.int .i64 y.ca,.int .i64 y.ma,.int .i64 y.re] 59 (0,0))∧SpT s t m w'∧lru.Tn (Bs s t m) u2a w')) (by kernel_rfl) (HSS1.out _ HSd1.out HTd1.out) (fun hHeld=>?_);refine wpAnyH_take (i:=0) (oi:=⟨some 15,_,_,_,_,_⟩) (v:=?_) rfl (by kernel_rfl) (by kernel_rfl) (by kernel_rfl) (fun _ _ _ h=>h) (Or.inl ⟨by kernel_rfl,?_⟩) (by assumption) ?_
    rotate_left 1
    focus (intro w' hSw;clear hSw;go_simp;(try with_reducible rfl))
    try simp only [Act.put,List.setIfInBounds_toArray,List.set_cons_zero,List.set_cons_succ]
    refine wpAnyH_take (i:=1) (oi:=⟨some 16,_,_,_,_,_⟩) (v:=?_) rfl (by kernel_rfl) (by kernel_rfl) (by kernel_rfl) (fun _ _ _ h=>h) (Or.inl ⟨by kernel_rfl,?_⟩) (by assumption) ?_
    rotate_left 1
    focus (intro w' hSw;have hSw:=hSw.1;have c17:=Jaa hSw 17;clear hSw;go_simp;(try with_reducible rfl))
    try simp only [Act.put,List.setIfInBounds_toArray,List.set_cons_zero,List.set_cons_succ]
    refine wpAnyH_take (i:=2) (oi:=⟨some 17,_,_,_,_,_⟩) (v:=?_) rfl (by kernel_rfl) (by kernel_rfl) (by kernel_rfl) (fun _ _ _ h=>h) (Or.inl ⟨by kernel_rfl,?_⟩) (by assumption) ?_
    rotate_left 1
    focus (intro w' hSw;clear hSw;go_simp;(try with_reducible rfl))
    try simp only [Act.put,List.setIfInBounds_toArray,List.set_cons_zero,List.set_cons_succ]
    refine wpAnyH_take (i:=3) (oi:=⟨some 18,_,_,_,_,_⟩) (v:=?_) rfl (by kernel_rfl) (by kernel_rfl) (by kernel_rfl) (fun _ _ _ h=>h) (Or.inl ⟨by kernel_rfl,?_⟩) (by assumption) ?_
    rotate_left 1
    focus (intro w' hSw;clear hSw;go_simp;(try with_reducible rfl))
    try simp only [Act.put,List.setIfInBounds_toArray,List.set_cons_zero,List.set_cons_succ]
    refine wpAnyH_take (i:=4) (oi:=⟨some 19,_,_,_,_,_⟩) (v:=?_) rfl (by kernel_rfl) (by kernel_rfl) (by kernel_rfl) (fun _ _ _ h=>h) (Or.inl ⟨by kernel_rfl,?_⟩) (by assumption) ?_
    rotate_left 1
    focus (intro w' hSw;clear hSw;go_simp;(try with_reducible rfl))
    try simp only [Act.put,List.setIfInBounds_toArray,List.set_cons_zero,List.set_cons_succ]
    refine wpAnyH_take (i:=5) (oi:=⟨some 20,_,_,_,_,_⟩) (v:=?_) rfl (by kernel_rfl) (by kernel_rfl) (by kernel_rfl) (fun _ _ _ h=>h) (Or.inl ⟨by kernel_rfl,?_⟩) (by assumption) ?_
    rotate_left 1
    focus (intro w' hSw;clear hSw;go_simp;(try with_reducible rfl))
    try simp only [Act.put,List.setIfInBounds_toArray,List.set_cons_zero,List.set_cons_succ]
    refine wpAnyH_take (i:=6) (oi:=⟨some 21,_,_,_,_,_⟩) (v:=?_) rfl (by kernel_rfl) (by kernel_rfl) (by kernel_rfl) (fun _ _ _ h=>h) (Or.inl ⟨by kernel_rfl,?_⟩) (by assumption) ?_
    rotate_left 1
    focus (intro w' hSw;have hSw:=hSw.1;have c17:=Jaa hSw 17;clear hSw;go_simp;(try with_reducible rfl))
    try simp only [Act.put,List.setIfInBounds_toArray,List.set_cons_zero,List.set_cons_succ]
    refine wpAnyH_take (i:=7) (oi:=⟨some 22,_,_,_,_,_⟩) (v:=?_) rfl (by kernel_rfl) (by kernel_rfl) (by kernel_rfl) (fun _ _ _ h=>h) (Or.inl ⟨by kernel_rfl,?_⟩) (by assumption) ?_
    rotate_left 1
    focus (intro w' hSw;clear hSw;go_simp;(try with_reducible rfl))
    try simp only [Act.put,List.setIfInBounds_toArray,List.set_cons_zero,List.set_cons_succ]
    refine wpAnyH_take (i:=8) (oi:=⟨some 23,_,_,_,_,_⟩) (v:=?_) rfl (by kernel_rfl) (by kernel_rfl) (by kernel_rfl) (fun _ _ _ h=>h) (Or.inl ⟨by kernel_rfl,?_⟩) (by assumption) ?_
    rotate_left 1
    focus (intro w' hSw;have hSw:=hSw.1;have c16:=Jaa hSw 16;clear hSw;go_simp;(try with_reducible rfl))
    try simp only [Act.put,List.setIfInBounds_toArray,List.set_cons_zero,List.set_cons_succ]
    refine wpAnyH_take (i:=9) (oi:=⟨some 24,_,_,_,_,_⟩) (v:=?_) rfl (by kernel_rfl) (by kernel_rfl) (by kernel_rfl) (fun _ _ _ h=>h) (Or.inl ⟨by kernel_rfl,?_⟩) (by assumption) ?_
    rotate_left 1
    focus (intro w' hSw;clear hSw;go_simp;(try with_reducible rfl))
    try simp only [Act.put,List.setIfInBounds_toArray,List.set_cons_zero,List.set_cons_succ]
    refine wpAnyH_take (i:=10) (oi:=⟨some 25,_,_,_,_,_⟩) (v:=?_) rfl (by kernel_rfl) (by kernel_rfl) (by kernel_rfl) (fun _ _ _ h=>h) (Or.inl ⟨by kernel_rfl,?_⟩) (by assumption) ?_
    rotate_left 1
    focus (intro w' hSw;clear hSw;go_simp;(try with_reducible rfl))
    try simp only [Act.put,List.setIfInBounds_toArray,List.set_cons_zero,List.set_cons_succ]
    refine wpAnyH_take (i:=11) (oi:=⟨some 26,_,_,_,_,_⟩) (v:=?_) rfl (by kernel_rfl) (by kernel_rfl) (by kernel_rfl) (fun _ _ _ h=>h) (Or.inl ⟨by kernel_rfl,?_⟩) (by assumption) ?_
    rotate_left 1
    focus (intro w' hSw;clear hSw;go_simp;(try with_reducible rfl))
    try simp only [Act.put,List.setIfInBounds_toArray,List.set_cons_zero,List.set_cons_succ]
    refine wpAnyH_take (i:=12) (oi:=⟨some 27,_,_,_,_,_⟩) (v:=?_) rfl (by kernel_rfl) (by kernel_rfl) (by kernel_rfl) (fun _ _ _ h=>h) (Or.inl ⟨by kernel_rfl,?_⟩) (by assumption) ?_
    rotate_left 1
    focus (intro w' hSw;clear hSw;go_simp;(try with_reducible rfl))
    try simp only [Act.put,List.setIfInBounds_toArray,List.set_cons_zero,List.set_cons_succ]
    refine wpAnyH_take (i:=13) (oi:=⟨some 28,_,_,_,_,_⟩) (v:=?_) rfl (by kernel_rfl) (by kernel_rfl) (by kernel_rfl) (fun _ _ _ h=>h) (Or.inl ⟨by kernel_rfl,?_⟩) (by assumption) ?_
    rotate_left 1
    focus (intro w' hSw;have hSw:=hSw.1;have c17:=Jaa hSw 17;clear hSw;go_simp;(try with_reducible rfl))
    try simp only [Act.put,List.setIfInBounds_toArray,List.set_cons_zero,List.set_cons_succ]
    refine wpAnyH_take (i:=14) (oi:=⟨some 29,_,_,_,_,_⟩) (v:=?_) rfl (by kernel_rfl) (by kernel_rfl) (by kernel_rfl) (fun _ _ _ h=>h) (Or.inl ⟨by kernel_rfl,?_⟩) (by assumption) ?_
    rotate_left 1
    focus (intro w' hSw;clear hSw;go_simp;(try with_reducible rfl))
    try simp only [Act.put,List.setIfInBounds_toArray,List.set_cons_zero,List.set_cons_succ]
    refine wpAnyH_take (i:=15) (oi:=⟨some 30,_,_,_,_,_⟩) (v:=?_) rfl (by kernel_rfl) (by kernel_rfl) (by kernel_rfl) (fun _ _ _ h=>h) (Or.inl ⟨by kernel_rfl,?_⟩) (by assumption) ?_
    rotate_left 1
    focus (intro w' hSw;have hSw:=hSw.1;have c18:=Jaa hSw 18;clear hSw;go_simp;(try with_reducible rfl))
    try simp only [Act.put,List.setIfInBounds_toArray,List.set_cons_zero,List.set_cons_succ]
    refine wpAnyH_take (i:=16) (oi:=⟨some 31,_,_,_,_,_⟩) (v:=?_) rfl (by kernel_rfl) (by kernel_rfl) (by kernel_rfl) (fun _ _ _ h=>h) (Or.inl ⟨by kernel_rfl,?_⟩) (by assumption) ?_
    rotate_left 1
    focus (intro w' hSw;clear hSw;go_simp;(try with_reducible rfl))
    try simp only [Act.put,List.setIfInBounds_toArray,List.set_cons_zero,List.set_cons_succ]
    refine wpAnyH_take (i:=17) (oi:=⟨some 32,_,_,_,_,_⟩) (v:=?_) rfl (by kernel_rfl) (by kernel_rfl) (by kernel_rfl) (fun _ _ _ h=>h) (Or.inl ⟨by kernel_rfl,?_⟩) (by assumption) ?_
    rotate_left 1
    focus (intro w' hSw;clear hSw;go_simp;(try with_reducible rfl))
    try simp only [Act.put,List.setIfInBounds_toArray,List.set_cons_zero,List.set_cons_succ]
    refine wpAnyH_take (i:=18) (oi:=⟨some 33,_,_,_,_,_⟩) (v:=?_) rfl (by kernel_rfl) (by kernel_rfl) (by kernel_rfl) (fun _ _ _ h=>h) (Or.inl ⟨by kernel_rfl,?_⟩) (by assumption) ?_
    rotate_left 1
    focus (intro w' hSw;clear hSw;go_simp;(try with_reducible rfl))
    try simp only [Act.put,List.setIfInBounds_toArray,List.set_cons_zero,List.set_cons_succ]
    refine wpAnyH_take (i:=19) (oi:=⟨some 34,_,_,_,_,_⟩) (v:=?_) rfl (by kernel_rfl) (by kernel_rfl) (by kernel_rfl) (fun _ _ _ h=>h) (Or.inl ⟨by kernel_rfl,?_⟩) (by assumption) ?_
    rotate_left 1
    focus (intro w' hSw;clear hSw;go_simp;(try with_reducible rfl))
    try simp only [Act.put,List.setIfInBounds_toArray,List.set_cons_zero,List.set_cons_succ]
    refine wpAnyH_take (i:=20) (oi:=⟨some 35,_,_,_,_,_⟩) (v:=?_) rfl (by kernel_rfl) (by kernel_rfl) (by kernel_rfl) (fun _ _ _ h=>h) (Or.inl ⟨by kernel_rfl,?_⟩) (by assumption) ?_
    rotate_left 1
    focus (intro w' hSw;have hSw:=hSw.1;have c8:=Jaa hSw 8;have c9:=Jaa hSw 9;have c10:=Jaa hSw 10;have c11:=Jaa hSw 11;have c12:=Jaa hSw 12;have c13:=Jaa hSw 13;have c14:=Jaa hSw 14;have c15:=Jaa hSw 15;clear hSw;go_simp;(try with_reducible rfl))
    try simp only [Act.put,List.setIfInBounds_toArray,List.set_cons_zero,List.set_cons_succ]
    refine wpAnyH_take (i:=21) (oi:=⟨some 36,_,_,_,_,_⟩) (v:=?_) rfl (by kernel_rfl) (by kernel_rfl) (by kernel_rfl) (fun _ _ _ h=>h) (Or.inl ⟨by kernel_rfl,?_⟩) (by assumption) ?_
    rotate_left 1
    focus (intro w' hSw;clear hSw;go_simp;(try with_reducible rfl))
    try simp only [Act.put,List.setIfInBounds_toArray,List.set_cons_zero,List.set_cons_succ]
    refine wpAnyH_take (i:=22) (oi:=⟨some 37,_,_,_,_,_⟩) (v:=?_) rfl (by kernel_rfl) (by kernel_rfl) (by kernel_rfl) (fun _ _ _ h=>h) (Or.inl ⟨by kernel_rfl,?_⟩) (by assumption) ?_
    rotate_left 1
    focus (intro w' hSw;clear hSw;go_simp;(try with_reducible rfl))
    try simp only [Act.put,List.setIfInBounds_toArray,List.set_cons_zero,List.set_cons_succ]
    refine wpAnyH_take (i:=23) (oi:=⟨some 38,_,_,_,_,_⟩) (v:=?_) rfl (by kernel_rfl) (by kernel_rfl) (by kernel_rfl) (fun _ _ _ h=>h) (Or.inl ⟨by kernel_rfl,?_⟩) (by assumption) ?_
    rotate_left 1
    focus (intro w' hSw;have hSw:=hSw.1;have c2:=Jaa hSw 2;have c3:=Jaa hSw 3;have c4:=Jaa hSw 4;have c5:=Jaa hSw 5;have c6:=Jaa hSw 6;have c7:=Jaa hSw 7;clear hSw;go_simp;(try with_reducible rfl))
    try simp only [Act.put,List.setIfInBounds_toArray,List.set_cons_zero,List.set_cons_succ]
    refine wpAnyH_ready (rs:=[24]) (by kernel_rfl) (by simp) (.cons rfl (fun K hK=>?_) .nil);go_simp
    go_at_call 158
    refine (HDy.out u2a.drew HSd1.out).mono ?_;rintro en u3 ⟨rfl,hsp,htn⟩;clear hHeld;refine hK.out _ _ (HSS1.out u3 hsp (HTd1.out.trans htn)) (fun hHeld=>?_);clear hK;refine wpAnyH_ready (rs:=[25]) (by kernel_rfl) (by simp) (.cons rfl (fun K hK=>?_) .nil);go_simp
    go_at_call 89
    refine (HSmy.out u3).mono ?_;rintro en u4 ⟨rfl,hu4⟩;clear hHeld;refine hK.out _ _ (HSS1.out u4 (hsp.later hu4) ((HTd1.out.trans htn).trans (lru.Tn.of_below hu4 _))) (fun hHeld=>?_);clear hK;refine wpAnyH_take (i:=26) (oi:=⟨some 41,_,_,_,_,_⟩) (v:=?_) rfl (by kernel_rfl) (by kernel_rfl) (by kernel_rfl) (fun _ _ _ h=>h) (Or.inl ⟨by kernel_rfl,?_⟩) (by assumption) ?_
    rotate_left 1
    focus (intro w' hSw;clear hSw;go_simp;(try with_reducible rfl))
    try simp only [Act.put,List.setIfInBounds_toArray,List.set_cons_zero,List.set_cons_succ]
    refine wpAnyH_take (i:=27) (oi:=⟨some 42,_,_,_,_,_⟩) (v:=?_) rfl (by kernel_rfl) (by kernel_rfl) (by kernel_rfl) (fun _ _ _ h=>h) (Or.inl ⟨by kernel_rfl,?_⟩) (by assumption) ?_
    rotate_left 1
    focus (intro w' hSw;clear hSw;go_simp;(try with_reducible rfl))
    try simp only [Act.put,List.setIfInBounds_toArray,List.set_cons_zero,List.set_cons_succ]
    refine wpAnyH_done (by kernel_rfl) ?_ _;clear hHeld hm t0 t1 t2 t3 t4 t5
    as_aux_lemma=>
     have htq1:=(HTd1.out.trans htn).trans (lru.Tn.of_below hu4 _);have HTn1:Hid (lru.Tn (Bs s t m) u2 u4):=Lib.hid ((lru.Tn.of_below HBa1.out _).trans htq1);have HSn1:Hid (SpT s t m u4):=Lib.hid (hsp.later hu4);have HTw1:Hid (Two u4 g x y):=Lib.hid (HTa1.out.block (htq1.block g HTa1.out.lt hne.out));have p5:=Jaa (HSS1.out u4 HSn1.out htq1).1 17;clear hsp htn hu4 htq1;have HEnd:Hid (lru.Tn (Bs s t m) w u4):=Lib.hid (HTn0.out.trans HTn1.out);rcases b with _ |_
     ·go_wp2_with fail
      go_ret
      exact⟨rfl,HEnd.out⟩
     ·go_wp2_with fail
      rw [rounds_succ];go_wp2_with fail
      go_ret
      exact⟨rfl,HEnd.out⟩
end Go.Proofs.YtekekhgjobahaaaGreatDoor.tal
