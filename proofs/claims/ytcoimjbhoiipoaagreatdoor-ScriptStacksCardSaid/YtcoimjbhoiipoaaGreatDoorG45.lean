import Derived.Test.YtcoimjbhoiipoaaGreatDoorG42
import Derived.Test.YtcoimjbhoiipoaaGreatDoorG44
import Derived.Test.YtcoimjbhoiipoaaGreatDoorG4
set_option maxHeartbeats 3200000
set_option maxRecDepth 100000
open Go.Lib (hid)
open Go.Proofs.Tryz
namespace Go.Proofs.YtcoimjbhoiipoaaGreatDoor.scr
open Go.RowKit words cal

structure OpB where
 K:Int
 P:ByteArray
 O:Int
 N:Int
 I:Int
 G:ByteArray
def OpB.m (o:OpB):cal.Op:=opM o.K o.P o.O o.N o.I o.G
def OpB.v (o:OpB):Value:=opV o.K o.P o.O o.N o.I o.G
def OpB.c (o:OpB):List Value:=[.int .i64 o.K,.string o.P,.int .i64 o.O,.int .i64 o.N,.int .i64 o.I,.string o.G]
def opCells (l:List OpB):List Value:=l.flatMap OpB.c
structure ScB where
 sh:Int
 rm:Int
 cu:Int
 im:List ByteArray
 cl:List (List OpB)
 pk:List Int
def ScB.m (s:ScB):Sc:=⟨s.sh,s.rm,s.cu,s.im.map fun x=>x.data.toList,s.cl.map fun l=>l.map OpB.m,s.pk⟩
def scb0:ScB:=⟨0,0,0,[],[],[]⟩
def Rows (w:World) (B:Nat) (vc:Value) (cl:List (List OpB)):Prop:=
 ∃vs:List Value,w.ownsRow B 49 1 vc cl.length vs∧vs.length=cl.length∧(∀(i:Nat) (v:Value) (l:List OpB),vs[i]?=some v→cl[i]?=some l→w.ownsRow B 51 6 v l.length (opCells l))∧
  (∀(i j:Nat) (u v:Value) (b:Nat),vs[i]?=some u→vs[j]?=some v→u.ownBlock=some b→v.ownBlock=some b→i=j)
def RT (t:TypeId):Prop:=t=64∨t=9∨t=49∨t=51∨t=3
structure Rdr (w:World) (B g:Nat) (s:ScB) (k:Nat) (vi vc vp:Value):Prop where
 ge:B≤g
 blk:w.heap[g]?=some (.cells #[.int .i64 s.sh,.int .i64 s.rm,.int .i64 s.cu,vi,vc,vp,.int .i64 k] 64 (0,0))
 im:w.ownsRow B 9 1 vi s.im.length (s.im.map Value.string)
 cl:Rows w B vc s.cl
 pk:w.ownsRow B 3 1 vp s.pk.length (s.pk.map (Value.int .i64))
section
variable {w w':World} {B g:Nat} {s:ScB} {k:Nat} {vi vc vp:Value} {cl:List (List OpB)}
theorem Jal {e:TypeId} {size n:Nat} {v:Value} {xs:List Value} (h:w.ownsRow B e size v n xs) (hb:Below w.heap.size w w'):w'.ownsRow B e size v n xs:=by
 refine⟨h.1,?_⟩;rcases h.2 with h0 |⟨g,cap,cur,h1,h2,h3,h4⟩
 ·exact .inl h0
 ·exact .inr ⟨g,cap,cur,h1,h2,(hb.block _ (lt_of_some h3)).trans h3,h4⟩
theorem Rows.map (h:Rows w B vc cl) (hk:∀{e:TypeId} {size n:Nat} {v:Value} {xs:List Value},e=49∨e=51→w.ownsRow B e size v n xs→w'.ownsRow B e size v n xs):Rows w' B vc cl:=by
 obtain⟨vs,h1,h2,h3,h4⟩:=h;exact⟨vs,hk (.inl rfl) h1,h2,fun i v l hv hl=>hk (.inr rfl) (h3 i v l hv hl),h4⟩
theorem Rows.later (h:Rows w B vc cl) (hb:Below w.heap.size w w'):Rows w' B vc cl:=h.map fun _ h=>Jal h hb
theorem Rows.kept {S:TypeId→Prop} {B':Nat} (h:Rows w B vc cl) (hk:Kept S B' w w') (h1:¬S 49) (h2:¬S 51):Rows w' B vc cl:=h.map fun he h=>hk.own h (by rcases he with rfl |rfl<;>assumption)
theorem Rdr.later (h:Rdr w B g s k vi vc vp) (hb:Below w.heap.size w w'):Rdr w' B g s k vi vc vp:=
 ⟨h.ge,(hb.block _ (lt_of_some h.blk)).trans h.blk,Jal h.im hb,h.cl.later hb,Jal h.pk hb⟩
theorem Rows.nil (w:World) (B:Nat):Rows w B (.slice none 0 0) []:=⟨[],World.ownsRow_nil _ _ _ _,rfl,fun _ _ _ h=>(by cases h),fun _ _ _ _ _ h=>(by cases h)⟩
theorem Ja6 {e:TypeId} {size n:Nat} {v:Value} {xs:List Value} (h:w.ownsRow B e size v n xs) {b:Nat} (hb:v.ownBlock=some b):∃cs f,w.heap[b]?=some (.cells cs e f):=by
 rcases h.2 with⟨rfl,_⟩ |⟨j,cap,cur,rfl,_,hh,_⟩
 ·simp [Value.ownBlock] at hb
 ·obtain rfl:j=b:=by simpa [Value.ownBlock] using hb
  exact⟨_,_,hh⟩
theorem Jff {W1:World} {v0:Value} {e e0:TypeId} {size size0 n n0:Nat} {v:Value} {xs xs0:List Value} (h0:w.ownsRow B e0 size0 v0 n0 xs0) (hg:w.grownBy W1 v0.ownBlock) (h:w.ownsRow B e size v n xs) (hne:e≠e0∨∀b,v.ownBlock=some b→v0.ownBlock≠some b):W1.ownsRow B e size v n xs:=by
 refine h.kept hg ?_;cases hv:v.ownBlock with
 |none=>exact .inl rfl
 |some b=>
  right;intro e';rcases hne with hne |hne
  ·obtain⟨cs,f,h1⟩:=Ja6 h hv
   obtain⟨cs',f',h2⟩:=Ja6 h0 e'.symm;rw [h1] at h2;injection h2 with h2;injection h2 with _ h2;exact hne h2
  ·exact hne b hv e'.symm
section
variable {W1:World} {vs:List Value} {v':Value} (ho:w.ownsRow B 49 1 vc cl.length vs) (hl:vs.length=cl.length) (hr:∀(i:Nat) (v:Value) (l:List OpB),vs[i]?=some v→cl[i]?=some l→w.ownsRow B 51 6 v l.length (opCells l))
 (hd:∀(i j:Nat) (u v:Value) (b:Nat),vs[i]?=some u→vs[j]?=some v→u.ownBlock=some b→v.ownBlock=some b→i=j)
include ho hl hr hd
theorem Jfp (hown:W1.ownsRow B 49 1 v' (cl.length+1) (vs++[.slice none 0 0])) (hg:w.grownBy W1 vc.ownBlock):Rows W1 B v' (cl++[[]]):=by
 refine⟨vs++[.slice none 0 0],by rw [List.length_append];exact hown,by simp [hl],fun i v l hv hc=>?_,fun i j u v b hu hv hb hb'=>?_⟩
 ·rcases Nat.lt_or_ge i vs.length with hi |hi
  ·rw [List.getElem?_append_left hi] at hv
   rw [List.getElem?_append_left (by omega)] at hc;exact Jff ho hg (hr i v l hv hc) (.inl (by decide))
  ·rw [List.getElem?_append_right hi] at hv
   rw [List.getElem?_append_right (by omega)] at hc;obtain⟨h1,h2⟩:=List.getElem?_eq_some_iff.1 hv;obtain⟨h3,h4⟩:=List.getElem?_eq_some_iff.1 hc;simp at h1 h2 h4;subst h2 h4;exact World.ownsRow_nil _ _ _ _
 ·have h0:∀(i:Nat) (u:Value),(vs++[.slice none 0 0])[i]?=some u→u.ownBlock=some b→vs[i]?=some u:=fun i u hu hb=>by
   rcases Nat.lt_or_ge i vs.length with hi |hi
   ·rwa [List.getElem?_append_left hi] at hu
   ·rw [List.getElem?_append_right hi] at hu
    obtain⟨h1,h2⟩:=List.getElem?_eq_some_iff.1 hu;simp at h1 h2;subst h2;simp [Value.ownBlock] at hb
  exact hd i j u v b (h0 i u hu hb) (h0 j v hv hb') hb hb'
theorem Jrd {a:List (List OpB)} {l:List OpB} {q:Nat} {c:Nat} {v:Value} {o:OpB} {W2:World} (hcl:cl=a++[l]) (hvc:vc= .slice (some ⟨q,0,none⟩) cl.length c) (hv:vs[a.length]?=some v)
  (hown:W1.ownsRow B 51 6 v' (l.length+1) (opCells l++o.c)) (hg:w.grownBy W1 v.ownBlock) (hne:∀b,v'.ownBlock=some b→v.ownBlock=some b∨w.heap.size≤b) (hW2:W2=W1.setCell ⟨q,a.length,none⟩ v'):Rows W2 B vc (a++[l++[o]]):=by
 have hlen:cl.length=a.length+1:=by rw [hcl];simp
 have hvl:=hr a.length v l hv (by rw [hcl];simp);have ho1:W1.ownsRow B 49 1 vc cl.length vs:=Jff hvl hg ho (.inl (by decide));subst hvc;have hst:=(ho1.stored a.length v').1;rw [←hW2] at hst;have hk12:∀{size n:Nat} {u:Value} {xs:List Value},W1.ownsRow B 51 size u n xs→W2.ownsRow B 51 size u n xs:=fun {size n u xs} h=>by
  rw [hW2];refine Jae h (fun e=>?_) _;obtain⟨cs,f,h1⟩:=Ja6 h e;obtain⟨cs',f',h2⟩:=Ja6 (b:=q) ho1 rfl;rw [h1] at h2;injection h2 with h2;injection h2 with _ h2;revert h2;decide
 have hvb:∀b,v.ownBlock=some b→b<w.heap.size:=fun b hb=>(World.ownsRow.lt hvl b hb).2;have hset:∀(i:Nat) (u:Value),(vs.set a.length v')[i]?=some u→(i=a.length∧u=v')∨(i≠a.length∧vs[i]?=some u):=fun i u hu=>by
  by_cases hi:i=a.length
  ·subst hi
   rw [List.getElem?_set_self (by omega)] at hu;injection hu with hu;exact .inl ⟨rfl,hu.symm⟩
  ·rw [List.getElem?_set_ne (Ne.symm hi)] at hu
   exact .inr ⟨hi,hu⟩
 have hl2:(a++[l++[o]]).length=cl.length:=by rw [hlen];simp
 have hother:∀(i:Nat) (u:Value) (b:Nat),i≠a.length→vs[i]?=some u→u.ownBlock=some b→v'.ownBlock≠some b:=fun i u b hi hu hb hb'=>by
  have hil:i<vs.length:=(List.getElem?_eq_some_iff.1 hu).1;obtain⟨l',hl'⟩:∃l',cl[i]?=some l':=⟨_,List.getElem?_eq_getElem (by omega)⟩
  rcases hne b hb' with h |h
  ·exact hi (hd i a.length u v b hu hv hb h)
  ·have:=(World.ownsRow.lt (hr i u l' hu hl') b hb).2
   omega
 refine⟨vs.set a.length v',by rw [hl2];exact hst,by rw [List.length_set,hl2,hl],fun i u l' hu hl'=>?_,fun i j u u' b hu hu' hb hb'=>?_⟩
 ·rcases hset i u hu with⟨rfl,rfl⟩ |⟨hi,hu⟩
  ·have:l'=l++[o]:=by simpa using hl'.symm
   subst this;refine hk12 ?_;have:opCells (l++[o])=opCells l++o.c:=by simp [opCells]
   rw [this,List.length_append];exact hown
  ·have hil:i<vs.length:=(List.getElem?_eq_some_iff.1 hu).1
   have hl3:cl[i]?=some l':=by
    rw [hcl];rw [List.getElem?_append_left (by omega)] at hl' ⊢;exact hl'
   exact hk12 (Jff hvl hg (hr i u l' hu hl3) (.inr fun b hb e=>hi (hd i a.length u v b hu hv hb e)))
 ·rcases hset i u hu with⟨e1,e2⟩ |⟨hi,hu2⟩
  ·rcases hset j u' hu' with⟨e3,_⟩ |⟨hj,hu3⟩
   ·rw [e1,e3]
   ·rw [e2] at hb
    exact absurd hb (hother j u' b hj hu3 hb')
  ·rcases hset j u' hu' with⟨_,e4⟩ |⟨hj,hu3⟩
   ·rw [e4] at hb'
    exact absurd hb' (hother i u b hi hu2 hb)
   ·exact hd i j u u' b hu2 hu3 hb hb'
end
end

def rdB (s:ScB) (vi vc vp:Value) (k:Int):Obj:= .cells #[.int .i64 s.sh,.int .i64 s.rm,.int .i64 s.cu,vi,vc,vp,.int .i64 k] 64 (0,0)
theorem Jbd {w:World} {g j:Nat} {cs:Array Value} {t:TypeId} (h:w.heap[g]?=some (.cells cs t (0,0))) (u:Value):(w.setCell ⟨g,j,none⟩ u).heap[g]?=some (.cells (cs.setIfInBounds j u) t (0,0)):=heap_setCell_same w g j cs t u h
def RB (t:TypeId):Prop:=t=64
section
variable {w w':World} {B g:Nat} {s:ScB} {k:Nat} {vi vc vp:Value}
theorem Rdr.kept {S:TypeId→Prop} {B':Nat} (h:Rdr w B g s k vi vc vp) (hk:Kept S B' w w') (h0:¬S 64) (h1:¬S 9) (h2:¬S 49) (h3:¬S 51) (h4:¬S 3):Rdr w' B g s k vi vc vp:=
 ⟨h.ge,hk.blk h.blk h0,hk.own h.im h1,h.cl.kept hk h2 h3,hk.own h.pk h4⟩
theorem Rdr.box (h:Rdr w B g s k vi vc vp) {s':ScB} {k':Nat} (hk:Kept RB B w w') (hb:w'.heap[g]?=some (rdB s' vi vc vp k')) (h1:s'.im=s.im) (h2:s'.cl=s.cl) (h3:s'.pk=s.pk):Rdr w' B g s' k' vi vc vp:=
 ⟨h.ge,hb,by rw [h1];exact hk.own h.im (by unfold RB;decide),by rw [h2];exact h.cl.kept hk (by unfold RB;decide) (by unfold RB;decide),by rw [h3];exact hk.own h.pk (by unfold RB;decide)⟩
end
theorem Jer {B:Nat} {w w':World} {S:TypeId→Prop} (h:Kept S B w w') (hS:∀t,S t→RT t):Kept RT B w w':=
 ⟨h.os,h.tape,h.output,h.size,fun k hk hc=>h.block k hk (hc.imp id fun hc cs t f hw hs=>hc cs t f hw (hS t hs))⟩
def RoomO (l:ByteArray) (B g:Nat) (S:ScB) (vi vc vp:Value) (w:World) (e:Ending) (w':World):Prop:=
 ((∃a b c,numsM l.data.toList=some [a,b,c]∧e= .returned (.bool true)∧Rdr w' B g {S with sh:=a,rm:=b,cu:=c} 1 vi vc vp)∨((∀a b c,numsM l.data.toList≠some [a,b,c])∧e= .returned (.bool false)))∧Kept RT B w w'
theorem Jqa (m:Int) (l:ByteArray) (B g:Nat) (S:ScB) (vi vc vp:Value) (w:World) (hl:l.size≤1000000) (hE:Env m w) (hB:B≤w.heap.size) (h:Rdr w B g S 0 vi vc vp):
  Calls prog 30 #[.pointer (some ⟨g,0,none⟩),.string l] w (RoomO l B g S vi vc vp w):=by
 have HN:=hid (Jbj m l w hl hE);have H:=hid h;have HB:=hid hB;clear h hE hB hl;go_enter func30,ntmps30
 go_wp2_with fail
 refine HN.out.mono ?_;rintro e w2 ⟨ho,hb2⟩;have HK2:Hid (Kept RT B w w2):=hid (Kept.of_below hb2 RT B);have H2:=hid (H.out.later hb2);clear HN hb2;rcases ho with⟨ns,A,c,hn,rfl,hown⟩ |⟨hn,rfl⟩
 ·by_cases h3:ns.length=3
  ·obtain⟨x0,x1,x2,rfl⟩:∃a b c,ns=[a,b,c]:=by
    rcases ns with _ |⟨a,_ |⟨b,_ |⟨c,_ |⟨d,r⟩⟩⟩⟩<;>simp at h3;exact⟨a,b,c,rfl⟩
   obtain⟨q,c',hA,_,_,d0⟩:=lru.own_at hown (j:=0) (u:= .int .i64 x0) rfl;obtain⟨q1,c1,hA1,_,_,d1⟩:=lru.own_at hown (j:=1) (u:= .int .i64 x1) rfl;obtain⟨q2,c2,hA2,_,_,d2⟩:=lru.own_at hown (j:=2) (u:= .int .i64 x2) rfl;injection hA with hA _ hc;injection hA1 with hA1 _ _;injection hA2 with hA2 _ _;rw [hA] at hA1 hA2;injection hA1 with hA1;injection hA1 with hA1;injection hA2 with hA2;injection hA2 with hA2;subst hA1 hA2 hA hc;have hqg:q≠g:=fun e=>by
    obtain⟨cs,f,h1⟩:=Ja6 (b:=q) hown rfl;rw [e,H2.out.blk] at h1;injection h1 with h1;injection h1 with _ h1;revert h1;decide
   have b2:=H2.out.blk;obtain⟨W1,hW1⟩:=words.nm (w2.setCell ⟨g,6,none⟩ (.int .i64 1));have b1:W1.heap[g]?=some (rdB S vi vc vp 1):=by rw [hW1];exact Jbd b2 _
   have hk1:Kept RT B w2 W1:=by rw [hW1];exact (Kept.refl RT B w2).setCell H2.out.ge ⟨_,_,_,b2,.inl rfl⟩ _
   have e0:W1.cell? ⟨q,0,none⟩=some (.int .i64 x0):=by rw [hW1];exact (World.cell?_of_block (Below.heap_setCell _ _ _ _ hqg)).trans d0
   have e1:W1.cell? ⟨q,1,none⟩=some (.int .i64 x1):=by rw [hW1];exact (World.cell?_of_block (Below.heap_setCell _ _ _ _ hqg)).trans d1
   have e2:W1.cell? ⟨q,2,none⟩=some (.int .i64 x2):=by rw [hW1];exact (World.cell?_of_block (Below.heap_setCell _ _ _ _ hqg)).trans d2
   have b3:(W1.setCell ⟨g,0,none⟩ (.int .i64 x0)).heap[g]?=some (rdB {S with sh:=x0} vi vc vp 1):=Jbd b1 _;have b4:((W1.setCell ⟨g,0,none⟩ (.int .i64 x0)).setCell ⟨g,1,none⟩ (.int .i64 x1)).heap[g]?=some (rdB {S with sh:=x0,rm:=x1} vi vc vp 1):=Jbd b3 _;have b5:(((W1.setCell ⟨g,0,none⟩ (.int .i64 x0)).setCell ⟨g,1,none⟩ (.int .i64 x1)).setCell ⟨g,2,none⟩ (.int .i64 x2)).heap[g]?=some (rdB {S with sh:=x0,rm:=x1,cu:=x2} vi vc vp 1):=Jbd b4 _;have hk5:Kept RB B W1 (((W1.setCell ⟨g,0,none⟩ (.int .i64 x0)).setCell ⟨g,1,none⟩ (.int .i64 x1)).setCell ⟨g,2,none⟩ (.int .i64 x2)):=
    (((Kept.refl RB B W1).setCell H2.out.ge ⟨_,_,_,b1,rfl⟩ _).setCell (p:=⟨g,1,none⟩) H2.out.ge ⟨_,_,_,b3,rfl⟩ _).setCell (p:=⟨g,2,none⟩) H2.out.ge ⟨_,_,_,b4,rfl⟩ _
   have hk0:Kept RB B w2 W1:=by rw [hW1];exact (Kept.refl RB B w2).setCell (p:=⟨g,6,none⟩) H2.out.ge ⟨_,_,_,b2,rfl⟩ _
   have HF:Hid (RoomO l B g S vi vc vp w (.returned (.bool true)) (((W1.setCell ⟨g,0,none⟩ (.int .i64 x0)).setCell ⟨g,1,none⟩ (.int .i64 x1)).setCell ⟨g,2,none⟩ (.int .i64 x2)).drew):=hid
    ⟨.inl ⟨x0,x1,x2,hn,rfl,(H2.out.box (hk0.trans hk5) b5 rfl rfl rfl).later (Below.refl _ _).drew⟩,(HK2.out.trans (Jer (hk0.trans hk5) fun t ht=> .inl ht)).drew⟩
   have y6:=Jaa b2 6;have z6:=Jab b2 6;unfold rdB at b1 b3 b4;have y0:=Jaa b1 0;have z0:=Jab b1 0;have y1:=Jaa b3 1;have z1:=Jab b3 1;have y2:=Jaa b4 2;have z2:=Jab b4 2;have HW1:=hid hW1;have g3:(((3:Nat):Int) !=3)=false:=rfl;have l3:([x0,x1,x2]:List Int).length=3:=rfl;rw [l3];clear hW1 b1 b2 b3 b4 b5 hk1 hk5 hk0 hqg hown h3 d0 d1 d2 hn H2 l3;go_wp2_with fail
   rw [←HW1.out];go_region
   go_wp2_with fail
   go_ret
   exact HF.out
  ·have g3:((ns.length:Int) !=3)=true:=by rw [bne_iff_ne];omega
   have HF:Hid (RoomO l B g S vi vc vp w (.returned (.bool false)) w2):=hid ⟨.inr ⟨fun a b c e=>(by rw [hn] at e;injection e with e;rw [e] at h3;exact h3 rfl),rfl⟩,HK2.out⟩;clear hown h3 hn H2;go_wp2_with fail
   go_ret
   exact HF.out
 ·have HF:Hid (RoomO l B g S vi vc vp w (.returned (.bool false)) w2):=hid ⟨.inr ⟨fun a b c e=>(by rw [hn] at e;cases e),rfl⟩,HK2.out⟩
  clear hn H2;go_wp2_with fail
  go_ret
  exact HF.out
def Cx (m:Int) (B:Nat) (w:World):Prop:=∃w0:World,B=w0.heap.size∧Kept RT B w0 w∧Env m w0
theorem Cx.le {m:Int} {B:Nat} {w:World} (h:Cx m B w):B≤w.heap.size:=by obtain⟨w0,h1,h2,_⟩:=h;rw [h1];exact h2.size
theorem Cx.env {m:Int} {B:Nat} {w:World} (h:Cx m B w):Env m w:=by
 obtain⟨w0,h1,h2,h3⟩:=h;exact h3.later ((h2.below (by omega)).mono (by omega))
theorem Cx.next {m:Int} {B:Nat} {w w':World} (h:Cx m B w) (hk:Kept RT B w w'):Cx m B w':=by
 obtain⟨w0,h1,h2,h3⟩:=h;exact⟨w0,h1,h2.trans hk,h3⟩
theorem Cx.later {m:Int} {B:Nat} {w w':World} (h:Cx m B w) (hb:Below w.heap.size w w'):Cx m B w':=h.next (Kept.of_below hb RT B)
def PicksO (l:ByteArray) (B g:Nat) (S:ScB) (vi vc:Value) (w:World) (e:Ending) (w':World):Prop:=
 ((∃ns vp,numsM l.data.toList=some ns∧e= .returned (.bool true)∧Rdr w' B g {S with pk:=ns} 3 vi vc vp)∨(numsM l.data.toList=none∧e= .returned (.bool false)))∧Kept RT B w w'
theorem Jii (m:Int) (l:ByteArray) (B g:Nat) (S:ScB) (k:Nat) (vi vc vp:Value) (w:World) (hl:l.size≤1000000) (hC:Cx m B w) (h:Rdr w B g S k vi vc vp):
  Calls prog 32 #[.pointer (some ⟨g,0,none⟩),.string l] w (PicksO l B g S vi vc w):=by
 have H:=hid h;have HB:=hid hC.le;obtain⟨W1,hW1⟩:=words.nm (w.setCell ⟨g,6,none⟩ (.int .i64 3));have b0:=h.blk;have b1:W1.heap[g]?=some (rdB S vi vc vp 3):=by rw [hW1];exact Jbd b0 _
 have hk1:Kept RB B w W1:=by rw [hW1];exact (Kept.refl RB B w).setCell (p:=⟨g,6,none⟩) h.ge ⟨_,_,_,b0,rfl⟩ _
 have HE1:Hid (Env m W1):=hid (hC.next (Jer hk1 fun t ht=> .inl ht)).env;have HN:=hid (Jbj m l W1 hl HE1.out);have HK1:=hid hk1;have HW1:=hid hW1;have y6:=Jaa b0 6;have z6:=Jab b0 6;have HX1:=hid b1;clear hW1 b0 b1 hk1 h hC hl;go_enter func32,ntmps32
 go_upto_region 2 with fail
 rw [←HW1.out];clear HW1 y6 z6;go_wp2_with fail
 refine HN.out.mono ?_;rintro e w2 ⟨ho,hb2⟩;have x2:=(hb2.block _ (lt_of_some HX1.out)).trans HX1.out;unfold rdB at x2;have y5:=Jaa x2 5;have z5:=Jab x2 5;have hk2:Kept RB B w w2:=HK1.out.trans (Kept.of_below hb2 RB B);rcases ho with⟨ns,A,c,hn,rfl,hown⟩ |⟨hn,rfl⟩
 ·have hx:=Jbd (j:=5) x2 (.slice A ns.length c)
  have hk3:Kept RB B w (w2.setCell ⟨g,5,none⟩ (.slice A ns.length c)):=hk2.setCell (p:=⟨g,5,none⟩) H.out.ge ⟨_,_,_,x2,rfl⟩ _;have hBW:B≤W1.heap.size:=by have:=HB.out;have:=HK1.out.size;omega
  have HF:Hid (PicksO l B g S vi vc w (.returned (.bool true)) (w2.setCell ⟨g,5,none⟩ (.slice A ns.length c))):=hid
   ⟨.inl ⟨ns,.slice A ns.length c,hn,rfl,H.out.ge,hx,hk3.own H.out.im (by unfold RB;decide),H.out.cl.kept hk3 (by unfold RB;decide) (by unfold RB;decide),lru.own_mono (((Kept.refl RB B w2).setCell (p:=⟨g,5,none⟩) H.out.ge ⟨_,_,_,x2,rfl⟩ _).own hown (by unfold RB;decide)) hBW⟩,Jer hk3 fun t ht=> .inl ht⟩
  clear hn hown hx hk3 hBW hk2 hb2 HN x2;go_wp2_with fail
  go_ret
  exact HF.out
 ·have HF:Hid (PicksO l B g S vi vc w (.returned (.bool false)) (w2.setCell ⟨g,5,none⟩ (.slice none 0 0))):=hid
   ⟨.inr ⟨hn,rfl⟩,Jer (hk2.setCell (p:=⟨g,5,none⟩) H.out.ge ⟨_,_,_,x2,rfl⟩ _) fun t ht=> .inl ht⟩
  clear hn hk2 hb2 HN x2;go_wp2_with fail
  go_ret
  exact HF.out

theorem infoS:(Tryz.prog.info? 9).map (fun i=>(i.zero,i.size,i.bytes))=some (some (.string ByteArray.empty),1,16):=by kernel_rfl
theorem infoL:(Tryz.prog.info? 49).map (fun i=>(i.zero,i.size,i.bytes))=some (some (.slice none 0 0),1,24):=by kernel_rfl
def ImageO (l:ByteArray) (B g:Nat) (S:ScB) (vc vp:Value) (w:World) (e:Ending) (w':World):Prop:=
 ((∃(x:ByteArray) (vi:Value),unH l.data.toList=some x.data.toList∧e= .returned (.bool true)∧Rdr w' B g {S with im:=S.im++[x]} 1 vi vc vp)∨(unH l.data.toList=none∧e= .returned (.bool false)))∧Kept RT B w w'
theorem Jmg (m:Int) (l:ByteArray) (B g:Nat) (S:ScB) (vi vc vp:Value) (w:World) (hl:l.size≤1000000) (hn:S.im.length≤1000000) (hC:Cx m B w) (h:Rdr w B g S 1 vi vc vp):
  Calls prog 31 #[.pointer (some ⟨g,0,none⟩),.string l] w (ImageO l B g S vc vp w):=by
 have HN:=hid (Jhu l w (by omega));have H:=hid h;have HC:=hid hC;obtain⟨i0,hi,hy0,hy1,hy2⟩:=info_parts infoS;clear h hC hl;go_enter func31,ntmps31
 go_wp2_with fail
 refine HN.out.mono ?_;rintro e w2 ⟨ho,hb2⟩;have HK2:Hid (Kept RT B w w2):=hid (Kept.of_below hb2 RT B);have H2:=hid (H.out.later hb2);have HC2:=hid (HC.out.later hb2);clear HN hb2;rcases ho with⟨hx,rfl⟩ |⟨x,hx,rfl⟩
 ·have HF:Hid (ImageO l B g S vc vp w (.returned (.bool false)) w2):=hid ⟨.inr ⟨hx,rfl⟩,HK2.out⟩
  clear hx H2 HC2;go_wp2_with fail
  go_ret
  exact HF.out
 ·have HX:=hid hx
  have b2:=H2.out.blk;have y4:=Jaa b2 3;have hown:=H2.out.im;have hBw:=HC2.out.le;have hmm:S.im.length+1≤maxLen:=by unfold maxLen;omega
  have hmb:(S.im.length+1)*16≤140737488355328:=by omega
  obtain⟨A,c,rfl⟩:∃A c,vi= .slice A S.im.length c:=by obtain⟨A,c,h1,_⟩:=lru.own_facts hown;exact⟨A,c,h1⟩
  obtain⟨n,hnn⟩:=words.nm (S.im.length);have HL:=hid hnn;have HAp:Hid (∀(v':Value) (w1:World),w1.ownsRow B 9 1 v' (S.im.length+1) (S.im.map Value.string++[.string x])→(w2.alloc (.cells #[.string x] 9)).grownBy w1 (Value.slice A S.im.length c).ownBlock→
      w1.cell? ⟨g,3,none⟩=some (.slice A S.im.length c)∧w1.frozen? ⟨g,3,none⟩=false∧ImageO l B g S vc vp w (.returned (.bool true)) (w1.setCell ⟨g,3,none⟩ v')):=hid fun v' w1 h1 h2=>by
    have hk:Kept RT B w2 w1:=((Kept.refl RT B w2).alloc _).grown h2 (hown.alloc _) (Nat.le_refl _) (.inr (.inl rfl));have hks:Kept (fun t=>t=9) B w2 w1:=((Kept.refl (fun t=>t=9) B w2).alloc _).grown h2 (hown.alloc _) (Nat.le_refl _) rfl;have hb1:=hks.blk b2 (by decide);have hks2:Kept (fun t=>t=9∨t=64) B w2 (w1.setCell ⟨g,3,none⟩ v'):=(((Kept.refl (fun t=>t=9∨t=64) B w2).alloc _).grown h2 (hown.alloc _) (Nat.le_refl _) (.inl rfl)).setCell H2.out.ge ⟨_,_,_,hb1,.inr rfl⟩ _;refine⟨Jaa hb1 3,Jab hb1 3,.inl ⟨x,v',HX.out,rfl,H2.out.ge,Jbd hb1 v',?_,H2.out.cl.kept hks2 (by decide) (by decide),hks2.own H2.out.pk (by decide)⟩,HK2.out.trans (Jer hks2 fun t ht=>by rcases ht with ht |ht;exact .inr (.inl ht);exact .inl ht)⟩;rw [List.length_append,List.map_append];exact Jae h1 (Jbc h1 hb1 (by decide)) v'
  clear hx;go_wp2_with (at_builtin;refine wpList_append_own _ rfl _ _ 25 rfl B 9 i0 _ 1 16 underlying25 hi hy0 hy1 hy2 rfl (by decide) _ _ _ rfl (hown.alloc _) ⟨w2.heap.size,0,none⟩ 1 1 [.string x] rfl rfl (cell_one_new _ _ _) (by simp [Value.oneCell']) hmm hmb (by simp;omega) ?_;intro v' w1 hown' hgrow _;obtain⟨p0,p1,HF⟩:=HAp.out v' w1 hown' hgrow;obtain⟨g',cap',rfl⟩:=ownsRow_succ hown';clear y4 hown' hgrow)
  go_ret
  exact HF
end Go.Proofs.YtcoimjbhoiipoaaGreatDoor.scr
