import Derived.Test.YtekekhgjobahaaaGreatDoorD4
import Derived.Test.YtekekhgjobahaaaGreatDoorD5
import Derived.Test.YtekekhgjobahaaaGreatDoorA1
set_option maxHeartbeats 6400000
set_option maxRecDepth 100000
open Go.Lib (hid)
open Go.Proofs.Tryz
namespace Go.Proofs.YtekekhgjobahaaaGreatDoor.scr
open Go.RowKit words cal

structure OpB where
 K:Int
 P:ByteArray
 O:Int
 N:Int
 I:Int
 G:ByteArray
def OpB.m (o:OpB):cal.Op:=opM o.K o.P o.O o.N o.I o.G
def OpB.v (o:OpB):Value:=opV o.K o.P o.O o.N o.I o.G
def OpB.c (o:OpB):List Value:=[.int .i64 o.K,.string o.P,.int .i64 o.O,.int .i64 o.N,.int .i64 o.I,.string o.G]
def opCells (l:List OpB):List Value:=l.flatMap OpB.c
structure ScB where
 sh:Int
 rm:Int
 cu:Int
 im:List ByteArray
 cl:List (List OpB)
 pk:List Int
def ScB.m (s:ScB):Sc:=⟨s.sh,s.rm,s.cu,s.im.map fun x=>x.data.toList,s.cl.map fun l=>l.map OpB.m,s.pk⟩
def scb0:ScB:=⟨0,0,0,[],[],[]⟩
def Rows (w:World) (B:Nat) (vc:Value) (cl:List (List OpB)):Prop:=
 ∃vs:List Value,w.ownsRow B 103 1 vc cl.length vs∧vs.length=cl.length∧(∀(i:Nat) (v:Value) (l:List OpB),vs[i]?=some v→cl[i]?=some l→w.ownsRow B 55 6 v l.length (opCells l))∧
  (∀(i j:Nat) (u v:Value) (b:Nat),vs[i]?=some u→vs[j]?=some v→u.ownBlock=some b→v.ownBlock=some b→i=j)
def RT (t:TypeId):Prop:=t=66∨t=9∨t=103∨t=55∨t=3
structure Rdr (w:World) (B g:Nat) (s:ScB) (k:Nat) (vi vc vp:Value):Prop where
 ge:B≤g
 blk:w.heap[g]?=some (.cells #[.int .i64 s.sh,.int .i64 s.rm,.int .i64 s.cu,vi,vc,vp,.int .i64 k] 66 (0,0))
 im:w.ownsRow B 9 1 vi s.im.length (s.im.map Value.string)
 cl:Rows w B vc s.cl
 pk:w.ownsRow B 3 1 vp s.pk.length (s.pk.map (Value.int .i64))
section
variable {w w':World} {B g:Nat} {s:ScB} {k:Nat} {vi vc vp:Value} {cl:List (List OpB)}
theorem Jai {e:TypeId} {size n:Nat} {v:Value} {xs:List Value} (h:w.ownsRow B e size v n xs) (hb:Below w.heap.size w w'):w'.ownsRow B e size v n xs:=by
 refine⟨h.1,?_⟩;rcases h.2 with h0 |⟨g,cap,cur,h1,h2,h3,h4⟩
 ·exact .inl h0
 ·exact .inr ⟨g,cap,cur,h1,h2,(hb.block _ (lt_of_some h3)).trans h3,h4⟩
theorem Rows.map (h:Rows w B vc cl) (hk:∀{e:TypeId} {size n:Nat} {v:Value} {xs:List Value},e=103∨e=55→w.ownsRow B e size v n xs→w'.ownsRow B e size v n xs):Rows w' B vc cl:=by
 obtain⟨vs,h1,h2,h3,h4⟩:=h;exact⟨vs,hk (.inl rfl) h1,h2,fun i v l hv hl=>hk (.inr rfl) (h3 i v l hv hl),h4⟩
theorem Rows.later (h:Rows w B vc cl) (hb:Below w.heap.size w w'):Rows w' B vc cl:=h.map fun _ h=>Jai h hb
theorem Rows.kept {S:TypeId→Prop} {B':Nat} (h:Rows w B vc cl) (hk:Kept S B' w w') (h1:¬S 103) (h2:¬S 55):Rows w' B vc cl:=h.map fun he h=>hk.own h (by rcases he with rfl |rfl<;>assumption)
theorem Rdr.later (h:Rdr w B g s k vi vc vp) (hb:Below w.heap.size w w'):Rdr w' B g s k vi vc vp:=
 ⟨h.ge,(hb.block _ (lt_of_some h.blk)).trans h.blk,Jai h.im hb,h.cl.later hb,Jai h.pk hb⟩
theorem Rows.nil (w:World) (B:Nat):Rows w B (.slice none 0 0) []:=⟨[],World.ownsRow_nil _ _ _ _,rfl,fun _ _ _ h=>(by cases h),fun _ _ _ _ _ h=>(by cases h)⟩
theorem Jbc {e:TypeId} {size n:Nat} {v:Value} {xs:List Value} (h:w.ownsRow B e size v n xs) {b:Nat} (hb:v.ownBlock=some b):∃cs f,w.heap[b]?=some (.cells cs e f):=by
 rcases h.2 with⟨rfl,_⟩ |⟨j,cap,cur,rfl,_,hh,_⟩
 ·simp [Value.ownBlock] at hb
 ·obtain rfl:j=b:=by simpa [Value.ownBlock] using hb
  exact⟨_,_,hh⟩
theorem Jgq {W1:World} {v0:Value} {e e0:TypeId} {size size0 n n0:Nat} {v:Value} {xs xs0:List Value} (h0:w.ownsRow B e0 size0 v0 n0 xs0) (hg:w.grownBy W1 v0.ownBlock) (h:w.ownsRow B e size v n xs) (hne:e≠e0∨∀b,v.ownBlock=some b→v0.ownBlock≠some b):W1.ownsRow B e size v n xs:=by
 refine h.kept hg ?_;cases hv:v.ownBlock with
 |none=>exact .inl rfl
 |some b=>
  right;intro e';rcases hne with hne |hne
  ·obtain⟨cs,f,h1⟩:=Jbc h hv
   obtain⟨cs',f',h2⟩:=Jbc h0 e'.symm;rw [h1] at h2;injection h2 with h2;injection h2 with _ h2;exact hne h2
  ·exact hne b hv e'.symm
section
variable {W1:World} {vs:List Value} {v':Value} (ho:w.ownsRow B 103 1 vc cl.length vs) (hl:vs.length=cl.length) (hr:∀(i:Nat) (v:Value) (l:List OpB),vs[i]?=some v→cl[i]?=some l→w.ownsRow B 55 6 v l.length (opCells l))
 (hd:∀(i j:Nat) (u v:Value) (b:Nat),vs[i]?=some u→vs[j]?=some v→u.ownBlock=some b→v.ownBlock=some b→i=j)
include ho hl hr hd
theorem Jgu (hown:W1.ownsRow B 103 1 v' (cl.length+1) (vs++[.slice none 0 0])) (hg:w.grownBy W1 vc.ownBlock):Rows W1 B v' (cl++[[]]):=by
 refine⟨vs++[.slice none 0 0],by rw [List.length_append];exact hown,by simp [hl],fun i v l hv hc=>?_,fun i j u v b hu hv hb hb'=>?_⟩
 ·rcases Nat.lt_or_ge i vs.length with hi |hi
  ·rw [List.getElem?_append_left hi] at hv
   rw [List.getElem?_append_left (by omega)] at hc;exact Jgq ho hg (hr i v l hv hc) (.inl (by decide))
  ·rw [List.getElem?_append_right hi] at hv
   rw [List.getElem?_append_right (by omega)] at hc;obtain⟨h1,h2⟩:=List.getElem?_eq_some_iff.1 hv;obtain⟨h3,h4⟩:=List.getElem?_eq_some_iff.1 hc;simp at h1 h2 h4;subst h2 h4;exact World.ownsRow_nil _ _ _ _
 ·have h0:∀(i:Nat) (u:Value),(vs++[.slice none 0 0])[i]?=some u→u.ownBlock=some b→vs[i]?=some u:=fun i u hu hb=>by
   rcases Nat.lt_or_ge i vs.length with hi |hi
   ·rwa [List.getElem?_append_left hi] at hu
   ·rw [List.getElem?_append_right hi] at hu
    obtain⟨h1,h2⟩:=List.getElem?_eq_some_iff.1 hu;simp at h1 h2;subst h2;simp [Value.ownBlock] at hb
  exact hd i j u v b (h0 i u hu hb) (h0 j v hv hb') hb hb'
theorem Jwt {a:List (List OpB)} {l:List OpB} {q:Nat} {c:Nat} {v:Value} {o:OpB} {W2:World} (hcl:cl=a++[l]) (hvc:vc= .slice (some ⟨q,0,none⟩) cl.length c) (hv:vs[a.length]?=some v)
  (hown:W1.ownsRow B 55 6 v' (l.length+1) (opCells l++o.c)) (hg:w.grownBy W1 v.ownBlock) (hne:∀b,v'.ownBlock=some b→v.ownBlock=some b∨w.heap.size≤b) (hW2:W2=W1.setCell ⟨q,a.length,none⟩ v'):Rows W2 B vc (a++[l++[o]]):=by
 have hlen:cl.length=a.length+1:=by rw [hcl];simp
 have hvl:=hr a.length v l hv (by rw [hcl];simp);have ho1:W1.ownsRow B 103 1 vc cl.length vs:=Jgq hvl hg ho (.inl (by decide));subst hvc;have hst:=(ho1.stored a.length v').1;rw [←hW2] at hst;have hk12:∀{size n:Nat} {u:Value} {xs:List Value},W1.ownsRow B 55 size u n xs→W2.ownsRow B 55 size u n xs:=fun {size n u xs} h=>by
  rw [hW2];refine Jad h (fun e=>?_) _;obtain⟨cs,f,h1⟩:=Jbc h e;obtain⟨cs',f',h2⟩:=Jbc (b:=q) ho1 rfl;rw [h1] at h2;injection h2 with h2;injection h2 with _ h2;revert h2;decide
 have hvb:∀b,v.ownBlock=some b→b<w.heap.size:=fun b hb=>(World.ownsRow.lt hvl b hb).2;have hset:∀(i:Nat) (u:Value),(vs.set a.length v')[i]?=some u→(i=a.length∧u=v')∨(i≠a.length∧vs[i]?=some u):=fun i u hu=>by
  by_cases hi:i=a.length
  ·subst hi
   rw [List.getElem?_set_self (by omega)] at hu;injection hu with hu;exact .inl ⟨rfl,hu.symm⟩
  ·rw [List.getElem?_set_ne (Ne.symm hi)] at hu
   exact .inr ⟨hi,hu⟩
 have hl2:(a++[l++[o]]).length=cl.length:=by rw [hlen];simp
 have hother:∀(i:Nat) (u:Value) (b:Nat),i≠a.length→vs[i]?=some u→u.ownBlock=some b→v'.ownBlock≠some b:=fun i u b hi hu hb hb'=>by
  have hil:i<vs.length:=(List.getElem?_eq_some_iff.1 hu).1;obtain⟨l',hl'⟩:∃l',cl[i]?=some l':=⟨_,List.getElem?_eq_getElem (by omega)⟩
  rcases hne b hb' with h |h
  ·exact hi (hd i a.length u v b hu hv hb h)
  ·have:=(World.ownsRow.lt (hr i u l' hu hl') b hb).2
   omega
 refine⟨vs.set a.length v',by rw [hl2];exact hst,by rw [List.length_set,hl2,hl],fun i u l' hu hl'=>?_,fun i j u u' b hu hu' hb hb'=>?_⟩
 ·rcases hset i u hu with⟨rfl,rfl⟩ |⟨hi,hu⟩
  ·have:l'=l++[o]:=by simpa using hl'.symm
   subst this;refine hk12 ?_;have:opCells (l++[o])=opCells l++o.c:=by simp [opCells]
   rw [this,List.length_append];exact hown
  ·have hil:i<vs.length:=(List.getElem?_eq_some_iff.1 hu).1
   have hl3:cl[i]?=some l':=by
    rw [hcl];rw [List.getElem?_append_left (by omega)] at hl' ⊢;exact hl'
   exact hk12 (Jgq hvl hg (hr i u l' hu hl3) (.inr fun b hb e=>hi (hd i a.length u v b hu hv hb e)))
 ·rcases hset i u hu with⟨e1,e2⟩ |⟨hi,hu2⟩
  ·rcases hset j u' hu' with⟨e3,_⟩ |⟨hj,hu3⟩
   ·rw [e1,e3]
   ·rw [e2] at hb
    exact absurd hb (hother j u' b hj hu3 hb')
  ·rcases hset j u' hu' with⟨_,e4⟩ |⟨hj,hu3⟩
   ·rw [e4] at hb'
    exact absurd hb' (hother i u b hi hu2 hb)
   ·exact hd i j u u' b hu2 hu3 hb hb'
end
end

def Wrt (B b:Nat) (l:List UInt8) (w:World):Prop:=Lib.IsBuilder 100 5 B b (Lib.byteCells l) w
theorem Ji4:liesAt prog Tryz.prog.depth 100 (2 / Tryz.prog.cellsOf 100) 0 100 1=true:=by kernel_rfl
theorem Joy (b:Nat) (w:World) (h0:w.cell? ⟨b,0,none⟩=some (.pointer none)) (hsh:w.shape? b=some (100,2)) (hfz:w.frozen? ⟨b,0,none⟩=false):
  Calls prog 68 #[.pointer (some ⟨b,0,none⟩)] w fun e w'=>e= .returned (.tuple #[])∧w'=w.setCell ⟨b,0,none⟩ (.pointer (some ⟨b,0,none⟩)):=by
 obtain⟨j,hj,hjs⟩:=Option.map_eq_some_iff.1 sizeBuilder;go_enter func68,ntmps68
 go_wp2
 rw [Lib.run_to_unsafe w ⟨b,0,none⟩ underlying98 underlying176 hj (by rw [hjs];decide) hsh (Nat.zero_lt_succ 1)];simp only [Result.andThen];rw [Oper.upon_value];go_wp2
 rw [run_callFunc_extern func99 (by kernel_rfl) (by kernel_rfl) (by kernel_rfl) (e:=Extern.AbiNoEscape.same) (by kernel_rfl)];rw [Lib.run_noEscape];simp only [Result.andThen];rw [Oper.upon_value];go_wp2
 rw [Lib.run_from_unsafe w ⟨b,0,none⟩ underlying176 underlying98 hj hsh Ji4];simp only [Result.andThen];rw [Oper.upon_value];go_wp2
 go_end0
 exact⟨rfl,rfl⟩
theorem Jfj (B b:Nat) (l:List UInt8) (w:World) (h:Wrt B b l w):
  Calls prog 68 #[.pointer (some ⟨b,0,none⟩)] w fun e w'=>e= .returned (.tuple #[])∧Bld B b l w'∧Below B w w':=by
 rcases h with h |h
 ·refine (Joy b w h.cell0 h.shape h.frozen0).mono ?_
  rintro e w' ⟨rfl,rfl⟩;exact⟨rfl,h.used _,(Below.refl B w).setCell (p:=⟨b,0,none⟩) h.1 _⟩
 ·refine (Jhs b w h.cell0).mono ?_
  rintro e w' ⟨rfl,rfl⟩;exact⟨rfl,h,Below.refl B _⟩
theorem Jmi (B b:Nat) (l:List UInt8) (c:UInt8) (z:Int) (hz:z=(c.toNat:Int)) (w:World) (h:Wrt B b l w) (hlen:l.length≤8000000000) (hBw:B≤w.heap.size):
  Calls prog 57 #[.pointer (some ⟨b,0,none⟩),.int .u8 z] w fun e w'=>e= .returned .nilIface∧Bld B b (l++[c]) w'∧Below B w w':=by
 subst hz;obtain⟨i0,hi,hz0,hz1,hz2⟩:=info_parts info5;have HC:=hid (Jfj B b l w h);have HBw:=hid hBw;clear h;go_enter func57,ntmps57
 go_wp2_with fail
 refine HC.out.mono ?_;rintro e w1 ⟨rfl,h1,hb1⟩;clear HC;obtain⟨hB,v,hbk,hown,hne⟩:=h1;have c0:w1.cell? ⟨b,0,none⟩=some (.pointer (some ⟨b,0,none⟩)):=by rw [Lib.cell_of_heap hbk];rfl
 have c1:w1.cell? ⟨b,1,none⟩=some v:=by rw [Lib.cell_of_heap hbk];rfl
 have hbl:(Lib.byteCells l).length=l.length:=by simp [Lib.byteCells]
 rw [hbl] at hown;have HO:=hid hown;have HK:=hid hbk;have HN:=hid hne;have HB1:=hid hb1;clear hbl hown hbk hne hb1;go_wp2_with (at_builtin;refine wpList_append_own _ rfl _ _ 94 rfl B 5 i0 (.int .u8 0) 1 1 underlying94 hi hz0 hz1 hz2 rfl (by decide) _ _ _ rfl (HO.out.alloc _) ⟨w1.heap.size,0,none⟩ 1 1 [.int .u8 (c.toNat:Int)] rfl rfl ?c1 ?c2 ?c3 ?c4 ?c5 ?_)
 case c1=>
  intro j u hj
  match j,hj with
  |0,hj=>simp at hj;subst hj;simp [Addr.add]
 case c2=>intro u hu;simp at hu;subst hu;rfl
 case c3=>unfold maxLen;omega
 case c4=>omega
 case c5=>have:=HBw.out;have:=HB1.out.size;simp;omega
 intro v' w2 hown' hgrow _;have hlt:b<w1.heap.size:=lt_of_some HK.out;have hb2:w2.heap[b]?=some (.cells #[.pointer (some ⟨b,0,none⟩),v] 100 (0,0)):=by
  rw [hgrow.block b (by simp;omega) (fun e=>HN.out e.symm),Lib.alloc_old w1 _ b hlt];exact HK.out
 have d0:w2.cell? ⟨b,0,none⟩=some (.pointer (some ⟨b,0,none⟩)):=by rw [Lib.cell_of_heap hb2];rfl
 have d1:w2.cell? ⟨b,1,none⟩=some v:=by rw [Lib.cell_of_heap hb2];rfl
 have f1:w2.frozen? ⟨b,1,none⟩=false:=Lib.frozen_of_heap hb2 1;obtain⟨g,cap,rfl⟩:∃g cap,v'= .slice (some ⟨g,0,none⟩) (l.length+1) cap:=by
  rcases hown'.2 with⟨_,h0⟩ |⟨g,cap,cur,hv,_⟩
  ·omega
  ·exact⟨g,cap,hv⟩
 have hend:Bld B b (l++[c]) (w2.setCell ⟨b,1,none⟩ (.slice (some ⟨g,0,none⟩) (l.length+1) cap))∧Below B w (w2.setCell ⟨b,1,none⟩ (.slice (some ⟨g,0,none⟩) (l.length+1) cap)):=by
  refine⟨?_,?_⟩
  ·refine Lib.BuilderAt.put (T:=100) (e:=5) hB hb2 (bs':=Lib.byteCells (l++[c])) ?_ (by decide)
   have e:Lib.byteCells (l++[c])=Lib.byteCells l++[.int .u8 (c.toNat:Int)]:=by simp [Lib.byteCells]
   rw [e];have e2:(Lib.byteCells l++[Value.int .u8 (c.toNat:Int)]).length=l.length+1:=by simp [Lib.byteCells]
   rw [e2];exact hown'
  ·exact ((HB1.out.alloc (Nat.le_trans HBw.out HB1.out.size) _).grown hgrow (by have:=HBw.out;have:=HB1.out.size;simp;omega) (fun k hk=>(HO.out.lt k hk).1)).setCell (p:=⟨b,1,none⟩) hB _
 have HE:=hid hend;clear hown' hgrow hb2 hend hlt;go_wp2
 go_ret
 exact⟨rfl,HE.out⟩
theorem Jdq (B b:Nat) (l:List UInt8) (s:ByteArray) (w:World) (h:Wrt B b l w) (hlen:l.length≤40000000000) (hs:s.size≤4000000000) (hBw:B≤w.heap.size):
  Calls prog 36 #[.pointer (some ⟨b,0,none⟩),.string s] w fun e w'=>e= .returned (.tuple #[.int .i64 s.size,.nilIface])∧Bld B b (l++s.data.toList) w'∧Below B w w':=by
 obtain⟨i0,hi,hz0,hz1,hz2⟩:=info_parts info5;have HC:=hid (Jfj B b l w h);have HBw:=hid hBw;clear h;go_enter func36,ntmps36
 go_wp2_with fail
 refine HC.out.mono ?_;rintro e w1 ⟨rfl,h1,hb1⟩;clear HC;obtain⟨hB,v,hbk,hown,hne⟩:=h1;have c0:w1.cell? ⟨b,0,none⟩=some (.pointer (some ⟨b,0,none⟩)):=by rw [Lib.cell_of_heap hbk];rfl
 have c1:w1.cell? ⟨b,1,none⟩=some v:=by rw [Lib.cell_of_heap hbk];rfl
 have hbl:(Lib.byteCells l).length=l.length:=by simp [Lib.byteCells]
 rw [hbl] at hown;have HO:=hid hown;have HK:=hid hbk;have HN:=hid hne;have HB1:=hid hb1;clear hbl hown hbk hne hb1;go_wp2_with (at_builtin;refine Lib.wpList_append_own_string _ rfl _ _ 94 9 rfl B 5 i0 underlying94 underlying9 hi hz0 hz1 hz2 _ _ _ rfl HO.out s rfl ?c3 ?c4 ?c5 ?_)
 case c3=>unfold maxLen;omega
 case c4=>omega
 case c5=>have:=HBw.out;have:=HB1.out.size;omega
 intro v' w2 hown' hgrow _;have hlt:b<w1.heap.size:=lt_of_some HK.out;have hb2:w2.heap[b]?=some (.cells #[.pointer (some ⟨b,0,none⟩),v] 100 (0,0)):=by
  rw [hgrow.block b hlt (fun e=>HN.out e.symm)];exact HK.out
 have d0:w2.cell? ⟨b,0,none⟩=some (.pointer (some ⟨b,0,none⟩)):=by rw [Lib.cell_of_heap hb2];rfl
 have d1:w2.cell? ⟨b,1,none⟩=some v:=by rw [Lib.cell_of_heap hb2];rfl
 have f1:w2.frozen? ⟨b,1,none⟩=false:=Lib.frozen_of_heap hb2 1;obtain⟨ao,n',cap,rfl⟩:∃ao n' cap,v'= .slice ao n' cap:=by
  rcases hown'.2 with⟨hv,_⟩ |⟨g,cap,cur,hv,_⟩
  ·exact⟨_,_,_,hv⟩
  ·exact⟨_,_,_,hv⟩
 have hend:Bld B b (l++s.data.toList) (w2.setCell ⟨b,1,none⟩ (.slice ao n' cap))∧Below B w (w2.setCell ⟨b,1,none⟩ (.slice ao n' cap)):=by
  refine⟨?_,?_⟩
  ·refine Lib.BuilderAt.put (T:=100) (e:=5) hB hb2 (bs':=Lib.byteCells (l++s.data.toList)) ?_ (by decide)
   rw [Lib.byteCells_append,←Lib.strCells_eq];have e2:(Lib.byteCells l++Lib.strCells s).length=l.length+s.size:=by rw [List.length_append,Lib.byteCells_length,Lib.strCells_length]
   rw [e2];exact hown'
  ·exact (HB1.out.grown hgrow (by have:=HBw.out;have:=HB1.out.size;omega) (fun k hk=>(HO.out.lt k hk).1)).setCell (p:=⟨b,1,none⟩) hB _
 have HE:=hid hend;clear hown' hgrow hb2 hend hlt;go_wp2
 go_ret2
 exact⟨rfl,HE.out⟩
theorem Jga (w:World):Wrt w.heap.size w.heap.size [] (w.alloc (.cells #[.pointer none,.slice none 0 0] 100)):=Lib.fresh_isBuilder _ _ w
theorem Jg3 {B b:Nat} {l:List UInt8} {w w':World} (h:Bld B b l w) (hb:Below w.heap.size w w'):Bld B b l w':=by
 obtain⟨hB,v,hk,ho,hn⟩:=h;exact⟨hB,v,(hb.block _ (lt_of_some hk)).trans hk,Jai ho hb,hn⟩
theorem Jh6 (B b:Nat) (l:List UInt8) (s:ByteArray) (w:World) (h:Wrt B b l w) (hlen:l.length≤4000000000) (hs:s.size≤4000000000) (hBw:B≤w.heap.size):
  Calls prog 26 #[.pointer (some ⟨b,0,none⟩),.string s] w fun e w'=>e= .returned (.tuple #[])∧Bld B b (l++(s.data.toList++[10])) w'∧Below B w w':=by
 have H1:=hid (Jdq B b l s w h (by omega) hs hBw);have HBw:=hid hBw;clear h hBw;go_enter func26,ntmps26
 go_wp2_with fail
 refine H1.out.mono ?_;rintro e w1 ⟨rfl,h1,hb1⟩;have H2:=hid (Jmi B b (l++s.data.toList) 10 10 rfl w1 (.inr h1) (by rw [List.length_append,size_list];omega) (Nat.le_trans HBw.out hb1.size));have HB1:=hid hb1;clear h1 hb1;go_wp2_with fail
 refine H2.out.mono ?_;rintro e w2 ⟨rfl,h2,hb2⟩;rw [List.append_assoc] at h2;have HE:=hid (And.intro h2 (HB1.out.trans hb2));clear h2 hb2;go_wp2_with fail
 go_end0
 exact⟨rfl,HE.out⟩

def rdB (s:ScB) (vi vc vp:Value) (k:Int):Obj:= .cells #[.int .i64 s.sh,.int .i64 s.rm,.int .i64 s.cu,vi,vc,vp,.int .i64 k] 66 (0,0)
theorem Jbg {w:World} {g j:Nat} {cs:Array Value} {t:TypeId} (h:w.heap[g]?=some (.cells cs t (0,0))) (u:Value):(w.setCell ⟨g,j,none⟩ u).heap[g]?=some (.cells (cs.setIfInBounds j u) t (0,0)):=heap_setCell_same w g j cs t u h
def RB (t:TypeId):Prop:=t=66
section
variable {w w':World} {B g:Nat} {s:ScB} {k:Nat} {vi vc vp:Value}
theorem Rdr.kept {S:TypeId→Prop} {B':Nat} (h:Rdr w B g s k vi vc vp) (hk:Kept S B' w w') (h0:¬S 66) (h1:¬S 9) (h2:¬S 103) (h3:¬S 55) (h4:¬S 3):Rdr w' B g s k vi vc vp:=
 ⟨h.ge,hk.blk h.blk h0,hk.own h.im h1,h.cl.kept hk h2 h3,hk.own h.pk h4⟩
theorem Rdr.box (h:Rdr w B g s k vi vc vp) {s':ScB} {k':Nat} (hk:Kept RB B w w') (hb:w'.heap[g]?=some (rdB s' vi vc vp k')) (h1:s'.im=s.im) (h2:s'.cl=s.cl) (h3:s'.pk=s.pk):Rdr w' B g s' k' vi vc vp:=
 ⟨h.ge,hb,by rw [h1];exact hk.own h.im (by unfold RB;decide),by rw [h2];exact h.cl.kept hk (by unfold RB;decide) (by unfold RB;decide),by rw [h3];exact hk.own h.pk (by unfold RB;decide)⟩
end
theorem Jfi {B:Nat} {w w':World} {S:TypeId→Prop} (h:Kept S B w w') (hS:∀t,S t→RT t):Kept RT B w w':=
 ⟨h.os,h.tape,h.output,h.size,fun k hk hc=>h.block k hk (hc.imp id fun hc cs t f hw hs=>hc cs t f hw (hS t hs))⟩
def RoomO (l:ByteArray) (B g:Nat) (S:ScB) (vi vc vp:Value) (w:World) (e:Ending) (w':World):Prop:=
 ((∃a b c,numsM l.data.toList=some [a,b,c]∧e= .returned (.bool true)∧Rdr w' B g {S with sh:=a,rm:=b,cu:=c} 1 vi vc vp)∨((∀a b c,numsM l.data.toList≠some [a,b,c])∧e= .returned (.bool false)))∧Kept RT B w w'
theorem Jth (m:Int) (l:ByteArray) (B g:Nat) (S:ScB) (vi vc vp:Value) (w:World) (hl:l.size≤1000000) (hE:Env m w) (hB:B≤w.heap.size) (h:Rdr w B g S 0 vi vc vp):
  Calls prog 43 #[.pointer (some ⟨g,0,none⟩),.string l] w (RoomO l B g S vi vc vp w):=by
 have HN:=hid (Jbp m l w hl hE);have H:=hid h;have HB:=hid hB;clear h hE hB hl;go_enter func43,ntmps43
 go_wp2_with fail
 refine HN.out.mono ?_;rintro e w2 ⟨ho,hb2⟩;have HK2:Hid (Kept RT B w w2):=hid (Kept.of_below hb2 RT B);have H2:=hid (H.out.later hb2);clear HN hb2;rcases ho with⟨ns,A,c,hn,rfl,hown⟩ |⟨hn,rfl⟩
 ·by_cases h3:ns.length=3
  ·obtain⟨x0,x1,x2,rfl⟩:∃a b c,ns=[a,b,c]:=by
    rcases ns with _ |⟨a,_ |⟨b,_ |⟨c,_ |⟨d,r⟩⟩⟩⟩<;>simp at h3;exact⟨a,b,c,rfl⟩
   obtain⟨q,c',hA,_,_,d0⟩:=lru.own_at hown (j:=0) (u:= .int .i64 x0) rfl;obtain⟨q1,c1,hA1,_,_,d1⟩:=lru.own_at hown (j:=1) (u:= .int .i64 x1) rfl;obtain⟨q2,c2,hA2,_,_,d2⟩:=lru.own_at hown (j:=2) (u:= .int .i64 x2) rfl;injection hA with hA _ hc;injection hA1 with hA1 _ _;injection hA2 with hA2 _ _;rw [hA] at hA1 hA2;injection hA1 with hA1;injection hA1 with hA1;injection hA2 with hA2;injection hA2 with hA2;subst hA1 hA2 hA hc;have hqg:q≠g:=fun e=>by
    obtain⟨cs,f,h1⟩:=Jbc (b:=q) hown rfl;rw [e,H2.out.blk] at h1;injection h1 with h1;injection h1 with _ h1;revert h1;decide
   have b2:=H2.out.blk;obtain⟨W1,hW1⟩:=words.nm (w2.setCell ⟨g,6,none⟩ (.int .i64 1));have b1:W1.heap[g]?=some (rdB S vi vc vp 1):=by rw [hW1];exact Jbg b2 _
   have hk1:Kept RT B w2 W1:=by rw [hW1];exact (Kept.refl RT B w2).setCell H2.out.ge ⟨_,_,_,b2,.inl rfl⟩ _
   have e0:W1.cell? ⟨q,0,none⟩=some (.int .i64 x0):=by rw [hW1];exact (World.cell?_of_block (Below.heap_setCell _ _ _ _ hqg)).trans d0
   have e1:W1.cell? ⟨q,1,none⟩=some (.int .i64 x1):=by rw [hW1];exact (World.cell?_of_block (Below.heap_setCell _ _ _ _ hqg)).trans d1
   have e2:W1.cell? ⟨q,2,none⟩=some (.int .i64 x2):=by rw [hW1];exact (World.cell?_of_block (Below.heap_setCell _ _ _ _ hqg)).trans d2
   have b3:(W1.setCell ⟨g,0,none⟩ (.int .i64 x0)).heap[g]?=some (rdB {S with sh:=x0} vi vc vp 1):=Jbg b1 _;have b4:((W1.setCell ⟨g,0,none⟩ (.int .i64 x0)).setCell ⟨g,1,none⟩ (.int .i64 x1)).heap[g]?=some (rdB {S with sh:=x0,rm:=x1} vi vc vp 1):=Jbg b3 _;have b5:(((W1.setCell ⟨g,0,none⟩ (.int .i64 x0)).setCell ⟨g,1,none⟩ (.int .i64 x1)).setCell ⟨g,2,none⟩ (.int .i64 x2)).heap[g]?=some (rdB {S with sh:=x0,rm:=x1,cu:=x2} vi vc vp 1):=Jbg b4 _;have hk5:Kept RB B W1 (((W1.setCell ⟨g,0,none⟩ (.int .i64 x0)).setCell ⟨g,1,none⟩ (.int .i64 x1)).setCell ⟨g,2,none⟩ (.int .i64 x2)):=
    (((Kept.refl RB B W1).setCell H2.out.ge ⟨_,_,_,b1,rfl⟩ _).setCell (p:=⟨g,1,none⟩) H2.out.ge ⟨_,_,_,b3,rfl⟩ _).setCell (p:=⟨g,2,none⟩) H2.out.ge ⟨_,_,_,b4,rfl⟩ _
   have hk0:Kept RB B w2 W1:=by rw [hW1];exact (Kept.refl RB B w2).setCell (p:=⟨g,6,none⟩) H2.out.ge ⟨_,_,_,b2,rfl⟩ _
   have HF:Hid (RoomO l B g S vi vc vp w (.returned (.bool true)) (((W1.setCell ⟨g,0,none⟩ (.int .i64 x0)).setCell ⟨g,1,none⟩ (.int .i64 x1)).setCell ⟨g,2,none⟩ (.int .i64 x2)).drew):=hid
    ⟨.inl ⟨x0,x1,x2,hn,rfl,(H2.out.box (hk0.trans hk5) b5 rfl rfl rfl).later (Below.refl _ _).drew⟩,(HK2.out.trans (Jfi (hk0.trans hk5) fun t ht=> .inl ht)).drew⟩
   have y6:=Jaa b2 6;have z6:=Jab b2 6;unfold rdB at b1 b3 b4;have y0:=Jaa b1 0;have z0:=Jab b1 0;have y1:=Jaa b3 1;have z1:=Jab b3 1;have y2:=Jaa b4 2;have z2:=Jab b4 2;have HW1:=hid hW1;have g3:(((3:Nat):Int) !=3)=false:=rfl;have l3:([x0,x1,x2]:List Int).length=3:=rfl;rw [l3];clear hW1 b1 b2 b3 b4 b5 hk1 hk5 hk0 hqg hown h3 d0 d1 d2 hn H2 l3;go_wp2_with fail
   rw [←HW1.out];go_region
   go_wp2_with fail
   go_ret
   exact HF.out
  ·have g3:((ns.length:Int) !=3)=true:=by rw [bne_iff_ne];omega
   have HF:Hid (RoomO l B g S vi vc vp w (.returned (.bool false)) w2):=hid ⟨.inr ⟨fun a b c e=>(by rw [hn] at e;injection e with e;rw [e] at h3;exact h3 rfl),rfl⟩,HK2.out⟩;clear hown h3 hn H2;go_wp2_with fail
   go_ret
   exact HF.out
 ·have HF:Hid (RoomO l B g S vi vc vp w (.returned (.bool false)) w2):=hid ⟨.inr ⟨fun a b c e=>(by rw [hn] at e;cases e),rfl⟩,HK2.out⟩
  clear hn H2;go_wp2_with fail
  go_ret
  exact HF.out
def Cx (m:Int) (B:Nat) (w:World):Prop:=∃w0:World,B=w0.heap.size∧Kept RT B w0 w∧Env m w0
theorem Cx.le {m:Int} {B:Nat} {w:World} (h:Cx m B w):B≤w.heap.size:=by obtain⟨w0,h1,h2,_⟩:=h;rw [h1];exact h2.size
theorem Cx.env {m:Int} {B:Nat} {w:World} (h:Cx m B w):Env m w:=by
 obtain⟨w0,h1,h2,h3⟩:=h;exact h3.later ((h2.below (by omega)).mono (by omega))
theorem Cx.next {m:Int} {B:Nat} {w w':World} (h:Cx m B w) (hk:Kept RT B w w'):Cx m B w':=by
 obtain⟨w0,h1,h2,h3⟩:=h;exact⟨w0,h1,h2.trans hk,h3⟩
theorem Cx.later {m:Int} {B:Nat} {w w':World} (h:Cx m B w) (hb:Below w.heap.size w w'):Cx m B w':=h.next (Kept.of_below hb RT B)
def PicksO (l:ByteArray) (B g:Nat) (S:ScB) (vi vc:Value) (w:World) (e:Ending) (w':World):Prop:=
 ((∃ns vp,numsM l.data.toList=some ns∧e= .returned (.bool true)∧Rdr w' B g {S with pk:=ns} 3 vi vc vp)∨(numsM l.data.toList=none∧e= .returned (.bool false)))∧Kept RT B w w'
theorem Jko (m:Int) (l:ByteArray) (B g:Nat) (S:ScB) (k:Nat) (vi vc vp:Value) (w:World) (hl:l.size≤1000000) (hC:Cx m B w) (h:Rdr w B g S k vi vc vp):
  Calls prog 45 #[.pointer (some ⟨g,0,none⟩),.string l] w (PicksO l B g S vi vc w):=by
 have H:=hid h;have HB:=hid hC.le;obtain⟨W1,hW1⟩:=words.nm (w.setCell ⟨g,6,none⟩ (.int .i64 3));have b0:=h.blk;have b1:W1.heap[g]?=some (rdB S vi vc vp 3):=by rw [hW1];exact Jbg b0 _
 have hk1:Kept RB B w W1:=by rw [hW1];exact (Kept.refl RB B w).setCell (p:=⟨g,6,none⟩) h.ge ⟨_,_,_,b0,rfl⟩ _
 have HE1:Hid (Env m W1):=hid (hC.next (Jfi hk1 fun t ht=> .inl ht)).env;have HN:=hid (Jbp m l W1 hl HE1.out);have HK1:=hid hk1;have HW1:=hid hW1;have y6:=Jaa b0 6;have z6:=Jab b0 6;have HX1:=hid b1;clear hW1 b0 b1 hk1 h hC hl;go_enter func45,ntmps45
 go_upto_region 2 with fail
 rw [←HW1.out];clear HW1 y6 z6;go_wp2_with fail
 refine HN.out.mono ?_;rintro e w2 ⟨ho,hb2⟩;have x2:=(hb2.block _ (lt_of_some HX1.out)).trans HX1.out;unfold rdB at x2;have y5:=Jaa x2 5;have z5:=Jab x2 5;have hk2:Kept RB B w w2:=HK1.out.trans (Kept.of_below hb2 RB B);rcases ho with⟨ns,A,c,hn,rfl,hown⟩ |⟨hn,rfl⟩
 ·have hx:=Jbg (j:=5) x2 (.slice A ns.length c)
  have hk3:Kept RB B w (w2.setCell ⟨g,5,none⟩ (.slice A ns.length c)):=hk2.setCell (p:=⟨g,5,none⟩) H.out.ge ⟨_,_,_,x2,rfl⟩ _;have hBW:B≤W1.heap.size:=by have:=HB.out;have:=HK1.out.size;omega
  have HF:Hid (PicksO l B g S vi vc w (.returned (.bool true)) (w2.setCell ⟨g,5,none⟩ (.slice A ns.length c))):=hid
   ⟨.inl ⟨ns,.slice A ns.length c,hn,rfl,H.out.ge,hx,hk3.own H.out.im (by unfold RB;decide),H.out.cl.kept hk3 (by unfold RB;decide) (by unfold RB;decide),lru.own_mono (((Kept.refl RB B w2).setCell (p:=⟨g,5,none⟩) H.out.ge ⟨_,_,_,x2,rfl⟩ _).own hown (by unfold RB;decide)) hBW⟩,Jfi hk3 fun t ht=> .inl ht⟩
  clear hn hown hx hk3 hBW hk2 hb2 HN x2;go_wp2_with fail
  go_ret
  exact HF.out
 ·have HF:Hid (PicksO l B g S vi vc w (.returned (.bool false)) (w2.setCell ⟨g,5,none⟩ (.slice none 0 0))):=hid
   ⟨.inr ⟨hn,rfl⟩,Jfi (hk2.setCell (p:=⟨g,5,none⟩) H.out.ge ⟨_,_,_,x2,rfl⟩ _) fun t ht=> .inl ht⟩
  clear hn hk2 hb2 HN x2;go_wp2_with fail
  go_ret
  exact HF.out

theorem infoS:(Tryz.prog.info? 9).map (fun i=>(i.zero,i.size,i.bytes))=some (some (.string ByteArray.empty),1,16):=by kernel_rfl
theorem infoL:(Tryz.prog.info? 103).map (fun i=>(i.zero,i.size,i.bytes))=some (some (.slice none 0 0),1,24):=by kernel_rfl
def ImageO (l:ByteArray) (B g:Nat) (S:ScB) (vc vp:Value) (w:World) (e:Ending) (w':World):Prop:=
 ((∃(x:ByteArray) (vi:Value),unH l.data.toList=some x.data.toList∧e= .returned (.bool true)∧Rdr w' B g {S with im:=S.im++[x]} 1 vi vc vp)∨(unH l.data.toList=none∧e= .returned (.bool false)))∧Kept RT B w w'
theorem Jpi (m:Int) (l:ByteArray) (B g:Nat) (S:ScB) (vi vc vp:Value) (w:World) (hl:l.size≤1000000) (hn:S.im.length≤1000000) (hC:Cx m B w) (h:Rdr w B g S 1 vi vc vp):
  Calls prog 44 #[.pointer (some ⟨g,0,none⟩),.string l] w (ImageO l B g S vc vp w):=by
 have HN:=hid (Jjy l w (by omega));have H:=hid h;have HC:=hid hC;obtain⟨i0,hi,hy0,hy1,hy2⟩:=info_parts infoS;clear h hC hl;go_enter func44,ntmps44
 go_wp2_with fail
 refine HN.out.mono ?_;rintro e w2 ⟨ho,hb2⟩;have HK2:Hid (Kept RT B w w2):=hid (Kept.of_below hb2 RT B);have H2:=hid (H.out.later hb2);have HC2:=hid (HC.out.later hb2);clear HN hb2;rcases ho with⟨hx,rfl⟩ |⟨x,hx,rfl⟩
 ·have HF:Hid (ImageO l B g S vc vp w (.returned (.bool false)) w2):=hid ⟨.inr ⟨hx,rfl⟩,HK2.out⟩
  clear hx H2 HC2;go_wp2_with fail
  go_ret
  exact HF.out
 ·have HX:=hid hx
  have b2:=H2.out.blk;have y4:=Jaa b2 3;have hown:=H2.out.im;have hBw:=HC2.out.le;have hmm:S.im.length+1≤maxLen:=by unfold maxLen;omega
  have hmb:(S.im.length+1)*16≤140737488355328:=by omega
  obtain⟨A,c,rfl⟩:∃A c,vi= .slice A S.im.length c:=by obtain⟨A,c,h1,_⟩:=lru.own_facts hown;exact⟨A,c,h1⟩
  obtain⟨n,hnn⟩:=words.nm (S.im.length);have HL:=hid hnn;have HAp:Hid (∀(v':Value) (w1:World),w1.ownsRow B 9 1 v' (S.im.length+1) (S.im.map Value.string++[.string x])→(w2.alloc (.cells #[.string x] 9)).grownBy w1 (Value.slice A S.im.length c).ownBlock→
      w1.cell? ⟨g,3,none⟩=some (.slice A S.im.length c)∧w1.frozen? ⟨g,3,none⟩=false∧ImageO l B g S vc vp w (.returned (.bool true)) (w1.setCell ⟨g,3,none⟩ v')):=hid fun v' w1 h1 h2=>by
    have hk:Kept RT B w2 w1:=((Kept.refl RT B w2).alloc _).grown h2 (hown.alloc _) (Nat.le_refl _) (.inr (.inl rfl));have hks:Kept (fun t=>t=9) B w2 w1:=((Kept.refl (fun t=>t=9) B w2).alloc _).grown h2 (hown.alloc _) (Nat.le_refl _) rfl;have hb1:=hks.blk b2 (by decide);have hks2:Kept (fun t=>t=9∨t=66) B w2 (w1.setCell ⟨g,3,none⟩ v'):=(((Kept.refl (fun t=>t=9∨t=66) B w2).alloc _).grown h2 (hown.alloc _) (Nat.le_refl _) (.inl rfl)).setCell H2.out.ge ⟨_,_,_,hb1,.inr rfl⟩ _;refine⟨Jaa hb1 3,Jab hb1 3,.inl ⟨x,v',HX.out,rfl,H2.out.ge,Jbg hb1 v',?_,H2.out.cl.kept hks2 (by decide) (by decide),hks2.own H2.out.pk (by decide)⟩,HK2.out.trans (Jfi hks2 fun t ht=>by rcases ht with ht |ht;exact .inr (.inl ht);exact .inl ht)⟩;rw [List.length_append,List.map_append];exact Jad h1 (Jap h1 hb1 (by decide)) v'
  clear hx;go_wp2_with (at_builtin;refine wpList_append_own _ rfl _ _ 27 rfl B 9 i0 _ 1 16 underlying27 hi hy0 hy1 hy2 rfl (by decide) _ _ _ rfl (hown.alloc _) ⟨w2.heap.size,0,none⟩ 1 1 [.string x] rfl rfl (cell_one_new _ _ _) (by simp [Value.oneCell']) hmm hmb (by simp;omega) ?_;intro v' w1 hown' hgrow _;obtain⟨p0,p1,HF⟩:=HAp.out v' w1 hown' hgrow;obtain⟨g',cap',rfl⟩:=ownsRow_succ hown';clear y4 hown' hgrow)
  go_ret
  exact HF

theorem infoO:(Tryz.prog.info? 55).map (fun i=>(i.zero,i.size,i.bytes))=some (some (opV 0 ⟨#[]⟩ 0 0 0 ⟨#[]⟩),6,64):=by kernel_rfl
def CallO (l:ByteArray) (B g:Nat) (S:ScB) (a:List (List OpB)) (x:List OpB) (vi vc vp:Value) (w:World) (e:Ending) (w':World):Prop:=
 ((∃o:OpB,parseM l.data.toList=some o.m∧OpFit o.O o.N o.I o.P o.G∧e= .returned (.bool true)∧Rdr w' B g {S with cl:=a++[x++[o]]} 2 vi vc vp)∨(parseM l.data.toList=none∧e= .returned (.bool false)))∧Kept RT B w w'
theorem Jt2 (m:Int) (l:ByteArray) (B g:Nat) (S:ScB) (a:List (List OpB)) (x:List OpB) (vi vc vp:Value) (w:World) (hl:l.size≤1000000) (hn:S.cl.length≤1000000) (hx:x.length≤1000000) (hcl:S.cl=a++[x]) (hC:Cx m B w) (h:Rdr w B g S 2 vi vc vp):
  Calls prog 46 #[.pointer (some ⟨g,0,none⟩),.string l] w (CallO l B g S a x vi vc vp w):=by
 have HN:=hid (Jpy m l w hl hC.env);have H:=hid h;have HC:=hid hC;have HCl:=hid hcl;obtain⟨i0,hi,hy0,hy1,hy2⟩:=info_parts infoO;clear h hC hl hcl;go_enter func46,ntmps46
 go_wp2_with fail
 refine HN.out.mono ?_;rintro e w2 ⟨ho,hb2⟩;have HK2:Hid (Kept RT B w w2):=hid (Kept.of_below hb2 RT B);have H2:=hid (H.out.later hb2);have HC2:=hid (HC.out.later hb2);clear HN hb2;rcases ho with⟨k,p,o,n,i,gg,rfl,hp,hf⟩ |⟨hp,rfl⟩
 rotate_left 1
 ·obtain⟨W3,hW3⟩:=words.nm (w2.alloc (.cells #[.int .i64 0,.string ⟨#[]⟩,.int .i64 0,.int .i64 0,.int .i64 0,.string ⟨#[]⟩] 55))
  have HF:Hid (CallO l B g S a x vi vc vp w (.returned (.bool false)) W3):=hid ⟨.inr ⟨hp,rfl⟩,by rw [hW3];exact HK2.out.alloc _⟩;have HW3:=hid hW3;clear hp H2 HC2 hW3;unfold opV;go_upto_region 2 with fail
  rw [←HW3.out];clear HW3;go_wp2_with fail
  go_ret
  exact HF.out
 ·obtain⟨oo,hoo⟩:∃oo:OpB,oo=⟨k,p,o,n,i,gg⟩:=⟨_,rfl⟩
  obtain⟨W3,hW3⟩:=words.nm (w2.alloc (.cells #[.int .i64 k,.string p,.int .i64 o,.int .i64 n,.int .i64 i,.string gg] 55));obtain⟨b5,hb5⟩:=words.nm (w2.heap.size);have hb3:Below w2.heap.size w2 W3:=words.b1 hW3;have x3:W3.heap[b5]?=some (.cells #[.int .i64 k,.string p,.int .i64 o,.int .i64 n,.int .i64 i,.string gg] 55 (0,0)):=by rw [hW3,hb5];exact heap_alloc_new w2 _
  have HK3:Hid (Kept RT B w W3):=hid (HK2.out.trans (Kept.of_below hb3 RT B));have H3:=hid (H2.out.later hb3);have HC3:=hid (HC2.out.later hb3);obtain⟨vs,ho,hlv,hr,hd⟩:=H3.out.cl;have hlen:S.cl.length=a.length+1:=by rw [HCl.out];simp
  obtain⟨v,hv⟩:∃v,vs[a.length]?=some v:=⟨_,List.getElem?_eq_getElem (by omega)⟩
  have hvl:=hr a.length v x hv (by rw [HCl.out];simp);obtain⟨A2,c2,rfl,_,hc2,_⟩:=lru.own_facts hvl;obtain⟨q,c,rfl,hq1,hq2,hqc⟩:=lru.own_at ho hv;have y4:=Jaa H3.out.blk 4;have u0:=Jaa x3 0;have u1:=Jaa x3 1;have u2:=Jaa x3 2;have u3:=Jaa x3 3;have u4:=Jaa x3 4;have u5:=Jaa x3 5;obtain⟨n1,hn1⟩:∃n1:Nat,n1=S.cl.length:=⟨_,rfl⟩
  obtain⟨k1,hk1⟩:∃k1:Nat,k1=a.length:=⟨_,rfl⟩
  rw [←hn1] at ho y4 hn;rw [←hk1] at hqc;have j0:(0:Int)≤(n1:Int) - 1:=by omega
  have j1:(n1:Int) - 1<(n1:Int):=by omega
  have j2:((n1:Int) - 1).toNat=k1:=by omega
  have j3:(1:Int)≤(n1:Int):=by omega
  have j4:IntKind.i64.wrap ((n1:Int) - 1)=(n1:Int) - 1:=IntWalk.i64_in _ ⟨by omega,by omega⟩;have HO3:=hid (And.intro ho (And.intro hlv (And.intro hr (And.intro hd (And.intro hv hvl)))));have HP:=hid (And.intro hp (And.intro hf hoo));have HL:=hid (And.intro hlen (And.intro hn1 hk1));have HQ:=hid (And.intro hq1 hq2);have HW3:=hid hW3;have HB5:=hid hb5;have HX3:=hid x3;clear ho hlv hr hd hv hvl hp hf hoo hlen hn1 hk1 hq1 hq2 hW3 hb5 x3 hb3 H2 HC2;unfold opV;go_upto_region 3 with fail
  rw [←HW3.out];simp only [←HB5.out];clear HW3 HB5;go_quiet (fail)
  obtain⟨W4,hW4⟩:=words.nm (W3.drewN nq);have hb4:Below W3.heap.size W3 W4:=by rw [hW4];exact⟨rfl,rfl,rfl,Nat.le_refl _,fun _ _=>rfl⟩
  rw [←hW4];have x4:=(hb4.block _ (lt_of_some HX3.out)).trans HX3.out;have H4:=hid (H3.out.later hb4);have HK4:Hid (Kept RT B w W4):=hid (HK3.out.trans (Kept.of_below hb4 RT B));have HBw:=hid (HC3.out.later hb4).le;have hvl4:=Jai HO3.out.2.2.2.2.2 hb4;have z0:W4.cell? ⟨q,k1,none⟩=some (.slice A2 x.length c2):=(hb4.cell (p:=⟨q,k1,none⟩) HQ.out.2).trans hqc;have z1:∀o:Obj,(W4.alloc o).cell? ⟨q,k1,none⟩=some (.slice A2 x.length c2):=fun o=>(((Below.refl W4.heap.size W4).alloc (Nat.le_refl _) o).cell (p:=⟨q,k1,none⟩) (Nat.lt_of_lt_of_le HQ.out.2 hb4.size)).trans z0;have u0:=Jaa x4 0;have u1:=Jaa x4 1;have u2:=Jaa x4 2;have u3:=Jaa x4 3;have u4:=Jaa x4 4;have u5:=Jaa x4 5;have HO4:Hid (W4.ownsRow B 103 1 (.slice (some ⟨q,0,none⟩) S.cl.length c) S.cl.length vs∧∀(i:Nat) (v:Value) (l:List OpB),vs[i]?=some v→S.cl[i]?=some l→W4.ownsRow B 55 6 v l.length (opCells l)):=hid (by
    have h1:=HO3.out.1;have h2:=HL.out.2.1;rw [h2] at h1;exact⟨Jai h1 hb4,fun i v l hv hl=>Jai (HO3.out.2.2.1 i v l hv hl) hb4⟩)
  obtain⟨O,hO⟩:∃O:Obj,O= .cells #[.int .i64 k,.string p,.int .i64 o,.int .i64 n,.int .i64 i,.string gg] 55:=⟨_,rfl⟩
  have HAp:Hid (∀(g' cap:Nat) (w1:World),w1.ownsRow B 55 6 (.slice (some ⟨g',0,none⟩) (x.length+1) cap) (x.length+1) (opCells x++[.int .i64 k,.string p,.int .i64 o,.int .i64 n,.int .i64 i,.string gg])→((W4.alloc O).drew).grownBy w1 (Value.slice A2 x.length c2).ownBlock→((Value.slice A2 x.length c2).ownBlock=some g'∨g'=W4.heap.size+1)→
      w1.cell? ⟨q,k1,none⟩=some (.slice A2 x.length c2)∧w1.frozen? ⟨q,k1,none⟩=false∧CallO l B g S a x vi (.slice (some ⟨q,0,none⟩) S.cl.length c) vp w (.returned (.bool true)) (w1.setCell ⟨q,k1,none⟩ (.slice (some ⟨g',0,none⟩) (x.length+1) cap))):=hid fun g' cap w1 h1 h2 h3=>by
    have hba:Below W4.heap.size W4 (W4.alloc O).drew:=((Below.refl _ _).alloc (Nat.le_refl _) _).drew;have hoA:=Jai HO4.out.1 hba;have hrA:∀(i:Nat) (v:Value) (l:List OpB),vs[i]?=some v→S.cl[i]?=some l→((W4.alloc O).drew).ownsRow B 55 6 v l.length (opCells l):=fun i v l hv hl=>Jai (HO4.out.2 i v l hv hl) hba;have hvA:=Jai hvl4 hba;have hksz:((W4.alloc O).drew).heap.size=W4.heap.size+1:=by simp
    have hk1:Kept (fun t=>t=55) B ((W4.alloc O).drew) w1:=(Kept.refl (fun t=>t=55) B _).grown h2 hvA (Nat.le_refl _) rfl;have hk01:Kept (fun t=>t=55) B W4 w1:=(Kept.of_below hba _ B).trans hk1;obtain⟨c3,f3,hq3⟩:=Jbc (b:=q) HO4.out.1 rfl;have hq4:∃cs,w1.heap[q]?=some (.cells cs 103 (0,0))∧cs[k1]?=some (.slice A2 x.length c2):=by
     have hoB:=hk1.own hoA (by decide);rcases hoB.2 with⟨h4,_⟩ |⟨j,cp,cur,h4,_,h5,h6,_,h7,h8⟩
     ·cases h4
     ·injection h4 with h4
      injection h4 with h4;injection h4 with h4;subst h4;refine⟨cur,h5,?_⟩;have h9:vs[k1]?=some (.slice A2 x.length c2):=by rw [HL.out.2.2];exact HO3.out.2.2.2.2.1
      rw [←h8,List.getElem?_take] at h9;split at h9
      ·simpa using h9
      ·cases h9
    obtain⟨cs,hq4,hq5⟩:=hq4;have hkS:Kept (fun t=>t=55∨t=103) B W4 (w1.setCell ⟨q,k1,none⟩ (.slice (some ⟨g',0,none⟩) (x.length+1) cap)):=
     ((Kept.of_below hba (fun t=>t=55∨t=103) B).grown h2 hvA (Nat.le_refl _) (.inl rfl)).setCell (p:=⟨q,k1,none⟩) HQ.out.1 ⟨_,_,_,hq4,.inr rfl⟩ _
    have hrow:=Jwt (o:=oo) hoA (HO3.out.2.1) hrA HO3.out.2.2.2.1 HCl.out rfl HO3.out.2.2.2.2.1 (by rw [HP.out.2.2];exact h1) h2 (fun b hb=>by
      have e:g'=b:=by simpa [Value.ownBlock] using hb
      rcases h3 with h3 |h3
      ·left;rw [h3,e]
      ·right;rw [hksz];omega) (by rw [←HL.out.2.2])
    refine⟨(Jaa hq4 k1).trans hq5,Jab hq4 k1,.inl ⟨oo,by rw [HP.out.2.2];exact HP.out.1,by rw [HP.out.2.2];exact HP.out.2.1,rfl,H4.out.ge,hkS.blk H4.out.blk (by decide),hkS.own H4.out.im (by decide),hrow,hkS.own H4.out.pk (by decide)⟩,HK4.out.trans (Jfi hkS fun t ht=>by rcases ht with rfl |rfl;exact .inr (.inr (.inr (.inl rfl)));exact .inr (.inr (.inl rfl)))⟩
  have hmm:x.length+1≤maxLen:=by unfold maxLen;omega
  have hmb:(x.length+1)*64≤140737488355328:=by omega
  have hBw:=HBw.out;have HOO:=hid hO;clear hW4 hb4 x4 y4 j0 j1 j2 j3 j4 hqc hO;go_upto_region 4 with fail
  go_region_law
   ((refine step_append_lies _ (by rfl) _ _ _ (by rfl) B 55 i0 _ 6 64 underlying103 hi hy0 hy1 hy2 rfl (by omega) _ x.length (opCells x) (by rfl) (Jai hvl4 ((Below.refl _ _).alloc (Nat.le_refl _) _).drew)
       ⟨W4.heap.size,0,none⟩ 1 1 [.int .i64 k,.string p,.int .i64 o,.int .i64 n,.int .i64 i,.string gg] (by rfl) (by rfl) (World.news_of_block (cs:=#[.int .i64 k,.string p,.int .i64 o,.int .i64 n,.int .i64 i,.string gg]) (t:=55) (fr:=(0,0)) (heap_alloc_new W4 _)) (by simp [Value.oneCell'])
       (by omega) hmm hmb (by simp;omega) (W4.heap.size+1) (by simp) ?_;intro g2 cap w1 hown1 hgrow hat hlt1;rw [←HOO.out] at hgrow;obtain⟨p0,p1,HF⟩:=HAp.out g2 cap w1 hown1 hgrow hat))
  all_goals
   clear hown1 hgrow hat hlt1 p0 p1 HAp;go_wp2_with fail
   go_ret
   exact HF

structure FB (n:Nat) (S:ScB):Prop where
 sh:I64 S.sh
 rm:I64 S.rm
 cu:I64 S.cu
 pk:∀x∈S.pk,I64 x
 op:∀x∈S.cl,∀o∈x,OpFit o.O o.N o.I o.P o.G
 li:S.im.length≤n
 lc:S.cl.length≤n
 lo:∀x∈S.cl,x.length≤n
theorem FB.more {n:Nat} {S:ScB} (h:FB n S):FB (n+1) S:=⟨h.sh,h.rm,h.cu,h.pk,h.op,Nat.le_succ_of_le h.li,Nat.le_succ_of_le h.lc,fun x hx=>Nat.le_succ_of_le (h.lo x hx)⟩
theorem FB.image {n:Nat} {S:ScB} (h:FB n S) (x:ByteArray):FB (n+1) {S with im:=S.im++[x]}:=⟨h.sh,h.rm,h.cu,h.pk,h.op,by have:=h.li;simp;omega,Nat.le_succ_of_le h.lc,fun x hx=>Nat.le_succ_of_le (h.lo x hx)⟩
theorem FB.client {n:Nat} {S:ScB} (h:FB n S):FB (n+1) {S with cl:=S.cl++[[]]}:=by
 refine⟨h.sh,h.rm,h.cu,h.pk,fun x hx o ho=>?_,Nat.le_succ_of_le h.li,by have:=h.lc;simp;omega,fun x hx=>?_⟩
 ·rcases List.mem_append.1 hx with hx |hx
  ·exact h.op x hx o ho
  ·obtain rfl:x=[]:=by simpa using hx
   cases ho
 ·rcases List.mem_append.1 hx with hx |hx
  ·exact Nat.le_succ_of_le (h.lo x hx)
  ·obtain rfl:x=[]:=by simpa using hx
   simp
theorem FB.picks {n:Nat} {S:ScB} (h:FB n S) {ns:List Int} (hn:∀x∈ns,I64 x):FB (n+1) {S with pk:=ns}:=⟨h.sh,h.rm,h.cu,hn,h.op,Nat.le_succ_of_le h.li,Nat.le_succ_of_le h.lc,fun x hx=>Nat.le_succ_of_le (h.lo x hx)⟩
theorem FB.room {n:Nat} {S:ScB} (h:FB n S) {a b c:Int} (hn:∀x∈[a,b,c],I64 x):FB (n+1) {S with sh:=a,rm:=b,cu:=c}:=⟨hn a (by simp),hn b (by simp),hn c (by simp),h.pk,h.op,Nat.le_succ_of_le h.li,Nat.le_succ_of_le h.lc,fun x hx=>Nat.le_succ_of_le (h.lo x hx)⟩
theorem FB.call {n:Nat} {S:ScB} (h:FB n S) {a:List (List OpB)} {x:List OpB} {o:OpB} (hS:S.cl=a++[x]) (ho:OpFit o.O o.N o.I o.P o.G):FB (n+1) {S with cl:=a++[x++[o]]}:=by
 have hx:=h.lo x (by rw [hS];simp);refine⟨h.sh,h.rm,h.cu,h.pk,fun y hy q hq=>?_,Nat.le_succ_of_le h.li,by have:=h.lc;rw [hS] at this;simp at this ⊢;omega,fun y hy=>?_⟩
 ·rcases List.mem_append.1 hy with hy |hy
  ·exact h.op y (by rw [hS];exact List.mem_append_left _ hy) q hq
  ·obtain rfl:y=x++[o]:=by simpa using hy
   rcases List.mem_append.1 hq with hq |hq
   ·exact h.op x (by rw [hS];simp) q hq
   ·obtain rfl:q=o:=by simpa using hq
    exact ho
 ·rcases List.mem_append.1 hy with hy |hy
  ·exact Nat.le_succ_of_le (h.lo y (by rw [hS];exact List.mem_append_left _ hy))
  ·obtain rfl:y=x++[o]:=by simpa using hy
   simp;omega
section
variable {l a b:List UInt8} {f:Bool} {s:Sc}
theorem Jwb (hc:cutL l=(a,b,f)) (ha:a=roomW) {x y z:Int} (hn:numsM b=some [x,y,z]):takeM ⟨s,0⟩ l=some ⟨{s with sh:=x,rm:=y,cu:=z},1⟩:=by
 unfold takeM;rw [if_pos rfl,hc];simp only [ha,if_true,hn]
theorem Jwe (hc:cutL l=(a,b,f)) (hn:∀x y z,numsM b≠some [x,y,z]):takeM ⟨s,0⟩ l=none:=by
 cases ht:takeM ⟨s,0⟩ l with
 |none=>rfl
 |some r=>
  obtain⟨x,y,z,_,h2,_⟩:=Jpv rfl ht;rw [hc] at h2;exact absurd h2 (hn x y z)
theorem Ju6 (hc:cutL l=(a,b,f)) (ha:a≠roomW):takeM ⟨s,0⟩ l=none:=by
 cases ht:takeM ⟨s,0⟩ l with
 |none=>rfl
 |some r=>
  obtain⟨x,y,z,h1,_,_⟩:=Jpv rfl ht;rw [hc] at h1;exact absurd h1 ha
theorem tk3:takeM ⟨s,3⟩ l=none:=by
 unfold takeM;rw [if_neg (show ¬(3:Nat)=0 by decide),if_pos rfl]
theorem Jnh {k:Nat} (hk:k=1∨k=2) (hc:cutL l=(a,b,f)) (ha:a=imageW):takeM ⟨s,k⟩ l=if k=1 then (unH b).map fun x=>⟨{s with im:=s.im++[x]},1⟩ else none:=by
 unfold takeM;rw [if_neg (show ¬k=0 by omega),if_neg (show ¬k=3 by omega),hc];simp only [ha,if_true]
theorem Jkj {k:Nat} (hk:k=1∨k=2) (hc:cutL l=(a,b,f)) (ha:a≠imageW) (hl:l=clientW):takeM ⟨s,k⟩ l=some ⟨{s with cl:=s.cl++[[]]},2⟩:=by
 unfold takeM;rw [if_neg (show ¬k=0 by omega),if_neg (show ¬k=3 by omega),hc,if_neg ha,if_pos hl]
theorem Jmu {k:Nat} (hk:k=1∨k=2) (hc:cutL l=(a,b,f)) (hl:l≠clientW) (hp:a=pickW):takeM ⟨s,k⟩ l=(numsM b).map fun ns=>⟨{s with pk:=ns},3⟩:=by
 unfold takeM;rw [if_neg (show ¬k=0 by omega),if_neg (show ¬k=3 by omega),hc,if_neg (fun e=>absurd (hp.symm.trans e) (by decide)),if_neg hl,if_pos hp]
theorem Jrc {k:Nat} (hk:k=1∨k=2) (hc:cutL l=(a,b,f)) (ha:a≠imageW) (hl:l≠clientW) (hp:a≠pickW):takeM ⟨s,k⟩ l=if k=2 then (parseM l).map fun o=>⟨{s with cl:=snocOp s.cl o},2⟩ else none:=by
 unfold takeM;rw [if_neg (show ¬k=0 by omega),if_neg (show ¬k=3 by omega),hc,if_neg ha,if_neg hl,if_neg hp]
end
theorem Jt0 {cl a:List (List OpB)} {x:List OpB} (o:OpB) (h:cl=a++[x]):snocOp (cl.map fun l=>l.map OpB.m) o.m=(a++[x++[o]]).map fun l=>l.map OpB.m:=by
 unfold snocOp;rw [h];simp
theorem Jat (s:ByteArray) (l:List UInt8):(s.toList==l)=decide (s.data.toList=l):=by
 rw [to_list,Bool.eq_iff_iff];simp
def TakeO (l:ByteArray) (n B g:Nat) (S:ScB) (k:Nat) (w:World) (e:Ending) (w':World):Prop:=
 ((∃S' k' vi vc vp,takeM ⟨S.m,k⟩ l.data.toList=some ⟨S'.m,k'⟩∧e= .returned (.bool true)∧Rdr w' B g S' k' vi vc vp∧FB (n+1) S'∧(k'=2→S'.cl≠[]))∨(takeM ⟨S.m,k⟩ l.data.toList=none∧e= .returned (.bool false)))∧Kept RT B w w'
theorem Jvc (m:Int) (l:ByteArray) (n B g:Nat) (S:ScB) (k:Nat) (vi vc vp:Value) (w:World) (hl:l.size≤1000000) (hn:n≤1000000) (hF:FB n S) (hk:k≤3) (h2:k=2→S.cl≠[]) (hC:Cx m B w) (h:Rdr w B g S k vi vc vp):
  Calls prog 20 #[.pointer (some ⟨g,0,none⟩),.string l] w (TakeO l n B g S k w):=by
 have HCu:=hid (Jdl m l w hl hC.env);have H:=hid h;have HC:=hid hC;have HF:=hid hF;have H2k:=hid h2;clear h hC hF h2;go_enter func20,ntmps20
 go_wp2_with fail
 refine HCu.out.mono ?_;rintro e w2 ⟨⟨a,b,f,rfl,hc⟩,hb2⟩;have HK2:Hid (Kept RT B w w2):=hid (Kept.of_below hb2 RT B);have H2:=hid (H.out.later hb2);have HC2:=hid (HC.out.later hb2);have hz:=Jem hc;have y6:=Jaa H2.out.blk 6;have HCut:=hid hc;clear hb2 hc HCu;have hk4:k=0∨k=1∨k=2∨k=3:=by omega
 rcases hk4 with rfl |rfl |rfl |rfl
 ·have HN:=hid (Jth m b B g S vi vc vp w2 (by omega) HC2.out.env HC2.out.le H2.out)
  by_cases hw:a.data.toList=roomW
  ·have t1:(a.toList==[114,111,111,109])=true:=by rw [Jat,decide_eq_true_eq];exact hw
   have HW:=hid hw;clear hw hz;go_wp2_with fail
   refine HN.out.mono ?_;rintro e w3 ⟨ho,hk3⟩;have HK3:=hid (HK2.out.trans hk3);clear hk3 HN;rcases ho with⟨x,y,z,hx,rfl,hr⟩ |⟨hx,rfl⟩
   ·have HFin:Hid (TakeO l n B g S 0 w (.returned (.bool true)) w3):=hid ⟨.inl ⟨{S with sh:=x,rm:=y,cu:=z},1,vi,vc,vp,Jwb HCut.out HW.out hx,rfl,hr,HF.out.room (Jew hx).2.2,fun e=>by cases e⟩,HK3.out⟩
    clear hx hr;go_wp2_with fail
    go_ret
    exact HFin.out
   ·have HFin:Hid (TakeO l n B g S 0 w (.returned (.bool false)) w3):=hid ⟨.inr ⟨Jwe HCut.out hx,rfl⟩,HK3.out⟩
    clear hx;go_wp2_with fail
    go_ret
    exact HFin.out
  ·have t1:(a.toList==[114,111,111,109])=false:=by rw [Jat,decide_eq_false_iff_not];exact hw
   have HFin:Hid (TakeO l n B g S 0 w (.returned (.bool false)) w2):=hid ⟨.inr ⟨Ju6 HCut.out hw,rfl⟩,HK2.out⟩;clear hw hz HN;go_wp2_with fail
   go_ret
   exact HFin.out
 ·have gk:((1:Int)==3)=false:=by decide
  by_cases hi:a.data.toList=imageW
  ·have t1:(a.toList==[105,109,97,103,101])=true:=by rw [Jat,decide_eq_true_eq];exact hi
   have HT:=hid (Jnh (s:=S.m) (k:=1) (by decide) HCut.out hi);have HN:=hid (Jpi m b B g S vi vc vp w2 (by omega) (by have:=HF.out.li;omega) HC2.out H2.out);clear hi hz;go_wp2_with fail
   refine HN.out.mono ?_;rintro e w3 ⟨ho,hk3⟩;have HK3:=hid (HK2.out.trans hk3);clear hk3 HN;rcases ho with⟨x,vi',hx,rfl,hr⟩ |⟨hx,rfl⟩
   ·have HFin:Hid (TakeO l n B g S 1 w (.returned (.bool true)) w3):=hid ⟨.inl ⟨{S with im:=S.im++[x]},1,vi',vc,vp,by rw [HT.out,if_pos trivial,hx];unfold ScB.m;simp,rfl,hr,HF.out.image x,fun e=>by cases e⟩,HK3.out⟩
    clear hx hr;go_wp2_with fail
    go_ret
    exact HFin.out
   ·have HFin:Hid (TakeO l n B g S 1 w (.returned (.bool false)) w3):=hid ⟨.inr ⟨by rw [HT.out,if_pos trivial,hx];rfl,rfl⟩,HK3.out⟩
    clear hx;go_wp2_with fail
    go_ret
    exact HFin.out
  have t1:(a.toList==[105,109,97,103,101])=false:=by rw [Jat,decide_eq_false_iff_not];exact hi
  by_cases hc:l.data.toList=clientW
  ·have t2:(l.toList==[99,108,105,101,110,116])=true:=by rw [Jat,decide_eq_true_eq];exact hc
   have HT:=hid (Jkj (s:=S.m) (k:=1) (by decide) HCut.out hi hc);have b2:=H2.out.blk;have z6:=Jab b2 6;obtain⟨W3,hW3⟩:=words.nm (w2.setCell ⟨g,6,none⟩ (.int .i64 2));have b3:W3.heap[g]?=some (rdB S vi vc vp 2):=by rw [hW3];exact Jbg b2 _
   have hk3:Kept RB B w2 W3:=by rw [hW3];exact (Kept.refl RB B w2).setCell (p:=⟨g,6,none⟩) H2.out.ge ⟨_,_,_,b2,rfl⟩ _
   have HK3:=hid (HK2.out.trans (Jfi hk3 fun t ht=> .inl ht));have H3:=hid (H2.out.box hk3 b3 rfl rfl rfl);have HC3:=hid (HC2.out.next (Jfi hk3 fun t ht=> .inl ht));obtain⟨vs,ho,hlv,hr,hd⟩:=H3.out.cl;obtain⟨A,c,rfl,_⟩:=lru.own_facts ho;have hlb:S.cl.length≤1000000:=by have:=HF.out.lc;omega
   have hmm:S.cl.length+1≤maxLen:=by unfold maxLen;omega
   have hmb:(S.cl.length+1)*24≤140737488355328:=by omega
   have hBw:=HC3.out.le;have HO3:=hid (And.intro ho (And.intro hlv (And.intro hr hd)));have HAp:Hid (∀(v':Value) (w1:World),w1.ownsRow B 103 1 v' (S.cl.length+1) (vs++[.slice none 0 0])→(W3.alloc (.cells #[.slice none 0 0] 103)).grownBy w1 (Value.slice A S.cl.length c).ownBlock→
       w1.cell? ⟨g,4,none⟩=some (.slice A S.cl.length c)∧w1.frozen? ⟨g,4,none⟩=false∧TakeO l n B g S 1 w (.returned (.bool true)) (w1.setCell ⟨g,4,none⟩ v')):=hid fun v' w1 h1 h2=>by
     have hba:Below W3.heap.size W3 (W3.alloc (.cells #[.slice none 0 0] 103)):=(Below.refl _ _).alloc (Nat.le_refl _) _;have hoA:=Jai HO3.out.1 hba;have hks:Kept (fun t=>t=103) B W3 w1:=(Kept.of_below hba _ B).grown h2 hoA (Nat.le_refl _) rfl;have hb1:=hks.blk H3.out.blk (by decide);have hks2:Kept (fun t=>t=103∨t=66) B W3 (w1.setCell ⟨g,4,none⟩ v'):=((Kept.of_below hba (fun t=>t=103∨t=66) B).grown h2 hoA (Nat.le_refl _) (.inl rfl)).setCell H3.out.ge ⟨_,_,_,hb1,.inr rfl⟩ _;have hrow:=Jgu hoA HO3.out.2.1 (fun i v l hv hl=>Jai (HO3.out.2.2.1 i v l hv hl) hba) HO3.out.2.2.2 h1 h2;have hrow2:=hrow.kept ((Kept.refl RB B w1).setCell (p:=⟨g,4,none⟩) H3.out.ge ⟨_,_,_,hb1,rfl⟩ v') (by unfold RB;decide) (by unfold RB;decide);refine⟨Jaa hb1 4,Jab hb1 4,.inl ⟨{S with cl:=S.cl++[[]]},2,vi,v',vp,by rw [HT.out];unfold ScB.m;simp,rfl,⟨H3.out.ge,Jbg hb1 v',hks2.own H3.out.im (by decide),hrow2,hks2.own H3.out.pk (by decide)⟩,HF.out.client,fun _=>by simp⟩,HK3.out.trans (Jfi hks2 fun t ht=>by rcases ht with rfl |rfl;exact .inr (.inr (.inl rfl));exact .inl rfl)⟩
   have HW3:=hid hW3;obtain⟨i0,hi0,hy0,hy1,hy2⟩:=info_parts infoL;have y4:=Jaa H3.out.blk 4;clear hi hc hz b2 b3 hk3 hlv hr hd hW3;go_upto_region 10 with fail
   rw [←HW3.out];clear HW3 y6 z6;go_wp2_with (at_builtin;refine wpList_append_own _ rfl _ _ 28 rfl B 103 i0 _ 1 24 underlying28 hi0 hy0 hy1 hy2 rfl (by decide) _ _ _ rfl (ho.alloc _) ⟨W3.heap.size,0,none⟩ 1 1 [.slice none 0 0] rfl rfl (cell_one_new _ _ _) (by simp [Value.oneCell']) hmm hmb (by simp;omega) ?_;intro v' w1 hown' hgrow _;obtain⟨p0,p1,HFin⟩:=HAp.out v' w1 hown' hgrow;obtain⟨g',cap',rfl⟩:=ownsRow_succ hown';clear y4 hown' hgrow)
   go_ret
   exact HFin
  have t2:(l.toList==[99,108,105,101,110,116])=false:=by rw [Jat,decide_eq_false_iff_not];exact hc
  by_cases hp:a.data.toList=pickW
  ·have t3:(a.toList==[112,105,99,107])=true:=by rw [Jat,decide_eq_true_eq];exact hp
   have HT:=hid (Jmu (s:=S.m) (k:=1) (by decide) HCut.out hc hp);have HN:=hid (Jko m b B g S 1 vi vc vp w2 (by omega) HC2.out H2.out);clear hi hc hp hz;go_wp2_with fail
   refine HN.out.mono ?_;rintro e w3 ⟨ho,hk3⟩;have HK3:=hid (HK2.out.trans hk3);clear hk3 HN;rcases ho with⟨ns,vp',hx,rfl,hr⟩ |⟨hx,rfl⟩
   ·have HFin:Hid (TakeO l n B g S 1 w (.returned (.bool true)) w3):=hid ⟨.inl ⟨{S with pk:=ns},3,vi,vc,vp',by rw [HT.out,hx];rfl,rfl,hr,HF.out.picks (Jew hx).2.2,fun e=>by cases e⟩,HK3.out⟩
    clear hx hr;go_wp2_with fail
    go_ret
    exact HFin.out
   ·have HFin:Hid (TakeO l n B g S 1 w (.returned (.bool false)) w3):=hid ⟨.inr ⟨by rw [HT.out,hx];rfl,rfl⟩,HK3.out⟩
    clear hx;go_wp2_with fail
    go_ret
    exact HFin.out
  have t3:(a.toList==[112,105,99,107])=false:=by rw [Jat,decide_eq_false_iff_not];exact hp
  have HT:=hid (Jrc (s:=S.m) (k:=1) (by decide) HCut.out hi hc hp);have HFin:Hid (TakeO l n B g S 1 w (.returned (.bool false)) w2):=hid ⟨.inr ⟨by rw [HT.out,if_neg (by decide)],rfl⟩,HK2.out⟩;clear hi hc hp hz;go_wp2_with fail
  go_ret
  exact HFin.out
 ·have gk:((2:Int)==3)=false:=by decide
  by_cases hi:a.data.toList=imageW
  ·have t1:(a.toList==[105,109,97,103,101])=true:=by rw [Jat,decide_eq_true_eq];exact hi
   have HT:=hid (Jnh (s:=S.m) (k:=2) (by decide) HCut.out hi);have HFin:Hid (TakeO l n B g S 2 w (.returned (.bool false)) w2):=hid ⟨.inr ⟨by rw [HT.out,if_neg (by decide)],rfl⟩,HK2.out⟩;clear hi hz;go_wp2_with fail
   go_ret
   exact HFin.out
  have t1:(a.toList==[105,109,97,103,101])=false:=by rw [Jat,decide_eq_false_iff_not];exact hi
  by_cases hc:l.data.toList=clientW
  ·have t2:(l.toList==[99,108,105,101,110,116])=true:=by rw [Jat,decide_eq_true_eq];exact hc
   have HT:=hid (Jkj (s:=S.m) (k:=2) (by decide) HCut.out hi hc);have b2:=H2.out.blk;have z6:=Jab b2 6;obtain⟨W3,hW3⟩:=words.nm (w2.setCell ⟨g,6,none⟩ (.int .i64 2));have b3:W3.heap[g]?=some (rdB S vi vc vp 2):=by rw [hW3];exact Jbg b2 _
   have hk3:Kept RB B w2 W3:=by rw [hW3];exact (Kept.refl RB B w2).setCell (p:=⟨g,6,none⟩) H2.out.ge ⟨_,_,_,b2,rfl⟩ _
   have HK3:=hid (HK2.out.trans (Jfi hk3 fun t ht=> .inl ht));have H3:=hid (H2.out.box hk3 b3 rfl rfl rfl);have HC3:=hid (HC2.out.next (Jfi hk3 fun t ht=> .inl ht));obtain⟨vs,ho,hlv,hr,hd⟩:=H3.out.cl;obtain⟨A,c,rfl,_⟩:=lru.own_facts ho;have hlb:S.cl.length≤1000000:=by have:=HF.out.lc;omega
   have hmm:S.cl.length+1≤maxLen:=by unfold maxLen;omega
   have hmb:(S.cl.length+1)*24≤140737488355328:=by omega
   have hBw:=HC3.out.le;have HO3:=hid (And.intro ho (And.intro hlv (And.intro hr hd)));have HAp:Hid (∀(v':Value) (w1:World),w1.ownsRow B 103 1 v' (S.cl.length+1) (vs++[.slice none 0 0])→(W3.alloc (.cells #[.slice none 0 0] 103)).grownBy w1 (Value.slice A S.cl.length c).ownBlock→
       w1.cell? ⟨g,4,none⟩=some (.slice A S.cl.length c)∧w1.frozen? ⟨g,4,none⟩=false∧TakeO l n B g S 2 w (.returned (.bool true)) (w1.setCell ⟨g,4,none⟩ v')):=hid fun v' w1 h1 h2=>by
     have hba:Below W3.heap.size W3 (W3.alloc (.cells #[.slice none 0 0] 103)):=(Below.refl _ _).alloc (Nat.le_refl _) _;have hoA:=Jai HO3.out.1 hba;have hks:Kept (fun t=>t=103) B W3 w1:=(Kept.of_below hba _ B).grown h2 hoA (Nat.le_refl _) rfl;have hb1:=hks.blk H3.out.blk (by decide);have hks2:Kept (fun t=>t=103∨t=66) B W3 (w1.setCell ⟨g,4,none⟩ v'):=((Kept.of_below hba (fun t=>t=103∨t=66) B).grown h2 hoA (Nat.le_refl _) (.inl rfl)).setCell H3.out.ge ⟨_,_,_,hb1,.inr rfl⟩ _;have hrow:=Jgu hoA HO3.out.2.1 (fun i v l hv hl=>Jai (HO3.out.2.2.1 i v l hv hl) hba) HO3.out.2.2.2 h1 h2;have hrow2:=hrow.kept ((Kept.refl RB B w1).setCell (p:=⟨g,4,none⟩) H3.out.ge ⟨_,_,_,hb1,rfl⟩ v') (by unfold RB;decide) (by unfold RB;decide);refine⟨Jaa hb1 4,Jab hb1 4,.inl ⟨{S with cl:=S.cl++[[]]},2,vi,v',vp,by rw [HT.out];unfold ScB.m;simp,rfl,⟨H3.out.ge,Jbg hb1 v',hks2.own H3.out.im (by decide),hrow2,hks2.own H3.out.pk (by decide)⟩,HF.out.client,fun _=>by simp⟩,HK3.out.trans (Jfi hks2 fun t ht=>by rcases ht with rfl |rfl;exact .inr (.inr (.inl rfl));exact .inl rfl)⟩
   have HW3:=hid hW3;obtain⟨i0,hi0,hy0,hy1,hy2⟩:=info_parts infoL;have y4:=Jaa H3.out.blk 4;clear hi hc hz b2 b3 hk3 hlv hr hd hW3;go_upto_region 10 with fail
   rw [←HW3.out];clear HW3 y6 z6;go_wp2_with (at_builtin;refine wpList_append_own _ rfl _ _ 28 rfl B 103 i0 _ 1 24 underlying28 hi0 hy0 hy1 hy2 rfl (by decide) _ _ _ rfl (ho.alloc _) ⟨W3.heap.size,0,none⟩ 1 1 [.slice none 0 0] rfl rfl (cell_one_new _ _ _) (by simp [Value.oneCell']) hmm hmb (by simp;omega) ?_;intro v' w1 hown' hgrow _;obtain⟨p0,p1,HFin⟩:=HAp.out v' w1 hown' hgrow;obtain⟨g',cap',rfl⟩:=ownsRow_succ hown';clear y4 hown' hgrow)
   go_ret
   exact HFin
  have t2:(l.toList==[99,108,105,101,110,116])=false:=by rw [Jat,decide_eq_false_iff_not];exact hc
  by_cases hp:a.data.toList=pickW
  ·have t3:(a.toList==[112,105,99,107])=true:=by rw [Jat,decide_eq_true_eq];exact hp
   have HT:=hid (Jmu (s:=S.m) (k:=2) (by decide) HCut.out hc hp);have HN:=hid (Jko m b B g S 2 vi vc vp w2 (by omega) HC2.out H2.out);clear hi hc hp hz;go_wp2_with fail
   refine HN.out.mono ?_;rintro e w3 ⟨ho,hk3⟩;have HK3:=hid (HK2.out.trans hk3);clear hk3 HN;rcases ho with⟨ns,vp',hx,rfl,hr⟩ |⟨hx,rfl⟩
   ·have HFin:Hid (TakeO l n B g S 2 w (.returned (.bool true)) w3):=hid ⟨.inl ⟨{S with pk:=ns},3,vi,vc,vp',by rw [HT.out,hx];rfl,rfl,hr,HF.out.picks (Jew hx).2.2,fun e=>by cases e⟩,HK3.out⟩
    clear hx hr;go_wp2_with fail
    go_ret
    exact HFin.out
   ·have HFin:Hid (TakeO l n B g S 2 w (.returned (.bool false)) w3):=hid ⟨.inr ⟨by rw [HT.out,hx];rfl,rfl⟩,HK3.out⟩
    clear hx;go_wp2_with fail
    go_ret
    exact HFin.out
  have t3:(a.toList==[112,105,99,107])=false:=by rw [Jat,decide_eq_false_iff_not];exact hp
  have HT:=hid (Jrc (s:=S.m) (k:=2) (by decide) HCut.out hi hc hp);obtain⟨aa,xx,hcl⟩:∃aa xx,S.cl=aa++[xx]:=⟨S.cl.dropLast,S.cl.getLast (H2k.out rfl),(List.dropLast_concat_getLast (H2k.out rfl)).symm⟩
  have HN:=hid (Jt2 m l B g S aa xx vi vc vp w2 hl (by have:=HF.out.lc;omega) (by have:=HF.out.lo xx (by rw [hcl];simp);omega) hcl HC2.out H2.out);have HCl:=hid hcl;clear hi hc hp hz hcl;go_wp2_with fail
  refine HN.out.mono ?_;rintro e w3 ⟨ho,hk3⟩;have HK3:=hid (HK2.out.trans hk3);clear hk3 HN;rcases ho with⟨o,hx,hof,rfl,hr⟩ |⟨hx,rfl⟩
  ·have HFin:Hid (TakeO l n B g S 2 w (.returned (.bool true)) w3):=hid ⟨.inl ⟨{S with cl:=aa++[xx++[o]]},2,vi,vc,vp,by
     rw [HT.out,if_pos trivial,hx];show some (⟨{S.m with cl:=snocOp (S.cl.map fun l=>l.map OpB.m) o.m},2⟩:Rd)=_;rw [Jt0 o HCl.out];rfl,rfl,hr,HF.out.call HCl.out hof,fun _=>by simp⟩,HK3.out⟩
   clear hx hr hof;go_wp2_with fail
   go_ret
   exact HFin.out
  ·have HFin:Hid (TakeO l n B g S 2 w (.returned (.bool false)) w3):=hid ⟨.inr ⟨by rw [HT.out,if_pos trivial,hx];rfl,rfl⟩,HK3.out⟩
   clear hx;go_wp2_with fail
   go_ret
   exact HFin.out
 ·have HFin:Hid (TakeO l n B g S 3 w (.returned (.bool false)) w2):=hid ⟨.inr ⟨tk3,rfl⟩,HK2.out⟩
  clear hz;go_wp2_with fail
  go_ret
  exact HFin.out

theorem Js6 (m:Int) (s:ByteArray) (w:World) (hs:s.size≤1000000) (hE:Env m w):
  Calls prog 19 #[.string s,.string ⟨#[10]⟩] w fun e w'=>(∃(a b:ByteArray) (f:Bool),e= .returned (.tuple #[.string a,.string b,.bool f])∧cutC 10 s.data.toList=(a.data.toList,b.data.toList,f))∧Below w.heap.size w w':=by
 refine (Tryz.strings_Cut s ⟨#[10]⟩ m w (by omega) hE.max).mono ?_;rintro e w' ⟨rfl,n,rfl⟩;exact⟨⟨_,_,_,rfl,by rw [Ja9,Ja9];rfl⟩,⟨rfl,rfl,rfl,Nat.le_refl _,fun _ _=>rfl⟩⟩
theorem Jpx {s a b:ByteArray} {f:Bool} (h:cutC 10 s.data.toList=(a.data.toList,b.data.toList,f)):a.size≤s.size∧b.size≤s.size∧(f=true→a.size+b.size+1=s.size):=by
 rw [←size_list,←size_list,←size_list];cases f with
 |true=>
  have h1:=(Jdw h).1;rw [h1];simp;omega
 |false=>
  obtain⟨h1,h2,_⟩:=Jis h;rw [h1,h2];simp
section
variable {r r':Rd} {n:Nat} {t a b:List UInt8}
theorem Jxt (hc:cutC 10 t=(a,b,false)):prsM r n (spl 10 t)= .inr n:=by rw [Jnf hc,prsM]
theorem Jto (hc:cutC 10 t=(a,b,true)) (ht:takeM r a=none):prsM r n (spl 10 t)= .inr n:=by
 obtain⟨q,ps,hq⟩:=List.exists_cons_of_ne_nil (Jf1 10 b);rw [Jel hc,hq,prsM,ht]
theorem Jw4 (hc:cutC 10 t=(a,b,true)) (ht:takeM r a=some r') (hb:b=[]):prsM r n (spl 10 t)= .inl r':=by
 rw [Jel hc,hb];simp only [spl,prsM,ht,and_self,if_true]
theorem Jx5 (hc:cutC 10 t=(a,b,true)) (ht:takeM r a=some r') (hb:b≠[]):prsM r n (spl 10 t)=prsM r' (n+1) (spl 10 b):=by
 obtain⟨q,ps,hq⟩:=List.exists_cons_of_ne_nil (Jf1 10 b);rw [Jel hc,hq,prsM,ht];simp only;rw [if_neg];rintro⟨rfl,rfl⟩;have:=Jfs 10 b;rw [hq] at this;exact hb this.symm
end
theorem Jxf {r r':Rd} {l:List UInt8} (h:takeM r l=some r'):r'.k≤3:=by
 by_cases hk:r.k=0
 ·obtain⟨a,b,c,_,_,rfl⟩:=Jpv hk h
  simp
 ·obtain⟨_,hw⟩:=Jv6 hk h
  rcases hw with⟨x,_,_,_,rfl⟩ |⟨_,rfl⟩ |⟨ns,_,_,rfl⟩ |⟨o,_,_,rfl⟩<;>simp
def scV (S:ScB) (vi vc vp:Value):Value:= .agg #[.int .i64 S.sh,.int .i64 S.rm,.int .i64 S.cu,vi,vc,vp]
structure Own (w:World) (B:Nat) (S:ScB) (vi vc vp:Value):Prop where
 im:w.ownsRow B 9 1 vi S.im.length (S.im.map Value.string)
 cl:Rows w B vc S.cl
 pk:w.ownsRow B 3 1 vp S.pk.length (S.pk.map (Value.int .i64))
def ParsedO (t:ByteArray) (w:World) (e:Ending) (w':World):Prop:=
 ((∃S vi vc vp,parseS t.data.toList= .inl S.m∧e= .returned (.tuple #[scV S vi vc vp,.int .i64 0])∧Own w' w.heap.size S vi vc vp∧FB (t.size+1) S)∨
   (∃b:Nat,parseS t.data.toList= .inr b∧e= .returned (.tuple #[scV scb0 (.slice none 0 0) (.slice none 0 0) (.slice none 0 0),.int .i64 (b:Int)])))∧Below w.heap.size w w'
structure PaI (m:Int) (T:ByteArray) (w:World) (g2 g:Nat) (text:ByteArray) (i:Nat) (S:ScB) (k:Nat) (vi vc vp:Value) (wr:World):Prop where
 pr:prsM ⟨S.m,k⟩ (i+1) (spl 10 text.data.toList)=prsM rd0 1 (spl 10 T.data.toList)
 sz:text.size+i≤T.size
 rd:Rdr wr w.heap.size g S k vi vc vp
 fb:FB i S
 k3:k≤3
 k2:k=2→S.cl≠[]
 kp:Kept RT w.heap.size w wr
 bx:wr.heap[g2]?=some (.cells #[.int .i64 0,.int .i64 0,.int .i64 0,.slice none 0 0,.slice none 0 0,.slice none 0 0] 31 (0,0))
 ge:w.heap.size≤g2
def put6 (w:World) (g:Nat) (u0 u1 u2 u3 u4 u5:Value):World:=(((((w.setCell ⟨g,0,none⟩ u0).setCell ⟨g,1,none⟩ u1).setCell ⟨g,2,none⟩ u2).setCell ⟨g,3,none⟩ u3).setCell ⟨g,4,none⟩ u4).setCell ⟨g,5,none⟩ u5
theorem Jlg {w:World} {g:Nat} {t:TypeId} {x0 x1 x2 x3 x4 x5:Value} (h:w.heap[g]?=some (.cells #[x0,x1,x2,x3,x4,x5] t (0,0))) (u0 u1 u2 u3 u4 u5:Value):(put6 w g u0 u1 u2 u3 u4 u5).heap[g]?=some (.cells #[u0,u1,u2,u3,u4,u5] t (0,0)):=
 Jbg (Jbg (Jbg (Jbg (Jbg (Jbg h u0) u1) u2) u3) u4) u5
theorem Jet {a w:World} {B g:Nat} (h:Below B a w) (hB:B≤g) (u0 u1 u2 u3 u4 u5:Value):Below B a (put6 w g u0 u1 u2 u3 u4 u5):=
 (((((h.setCell (p:=⟨g,0,none⟩) hB u0).setCell (p:=⟨g,1,none⟩) hB u1).setCell (p:=⟨g,2,none⟩) hB u2).setCell (p:=⟨g,3,none⟩) hB u3).setCell (p:=⟨g,4,none⟩) hB u4).setCell (p:=⟨g,5,none⟩) hB u5
theorem Jin {w:World} {B g size n:Nat} {t e:TypeId} {cs:Array Value} {v:Value} {xs:List Value} (hg:w.heap[g]?=some (.cells cs t (0,0))) (hne:e≠t) (h:w.ownsRow B e size v n xs) (u0 u1 u2 u3 u4 u5:Value):(put6 w g u0 u1 u2 u3 u4 u5).ownsRow B e size v n xs:=by
 have hn:=Jap h hg hne;unfold put6;exact Jad (Jad (Jad (Jad (Jad (Jad h hn u0) hn u1) hn u2) hn u3) hn u4) hn u5
def lenS:Value→Nat
 | .string s=>s.size
 |_=>0
theorem Jc2 (m:Int) (T:ByteArray) (w:World) (hT:T.size≤900000) (hE:Env m w):Calls prog 7 #[.string T] w (ParsedO T w):=by
 obtain⟨W1,hW1⟩:=words.nm ((w.alloc (.cells #[.int .i64 0,.int .i64 0,.int .i64 0,.slice none 0 0,.slice none 0 0,.slice none 0 0] 31)).alloc (.cells #[.int .i64 0,.int .i64 0,.int .i64 0,.slice none 0 0,.slice none 0 0,.slice none 0 0,.int .i64 0] 66));have hs1:(w.alloc (.cells #[.int .i64 0,.int .i64 0,.int .i64 0,.slice none 0 0,.slice none 0 0,.slice none 0 0] 31)).heap.size=w.heap.size+1:=by simp
 have hb1:Below w.heap.size w W1:=by rw [hW1];exact ((Below.refl _ _).alloc (Nat.le_refl _) _).alloc (by rw [hs1];omega) _
 have hx2:W1.heap[w.heap.size]?=some (.cells #[.int .i64 0,.int .i64 0,.int .i64 0,.slice none 0 0,.slice none 0 0,.slice none 0 0] 31 (0,0)):=by
  rw [hW1];exact (Below.heap_alloc _ _ _ (by rw [hs1];omega)).trans (heap_alloc_new w _)
 have hx4:W1.heap[w.heap.size+1]?=some (rdB scb0 (.slice none 0 0) (.slice none 0 0) (.slice none 0 0) 0):=by rw [hW1,←hs1];exact heap_alloc_new _ _
 have HI:Hid (PaI m T w w.heap.size (w.heap.size+1) T 0 scb0 0 (.slice none 0 0) (.slice none 0 0) (.slice none 0 0) W1):=hid
  ⟨rfl,by omega,⟨by omega,hx4,World.ownsRow_nil _ _ _ _,Rows.nil _ _,World.ownsRow_nil _ _ _ _⟩,⟨Jdk,Jdk,Jdk,fun _ h=>(by cases h),fun _ h=>(by cases h),Nat.zero_le _,Nat.zero_le _,fun _ h=>(by cases h)⟩,by omega,fun e=>(by cases e),Kept.of_below hb1 RT _,hx2,Nat.le_refl _⟩
 have HE:=hid hE;have HW1:=hid hW1;clear hW1 hs1 hb1 hx2 hx4 hE;go_enter func7,ntmps7
 go_upto_region 2 with fail
 rw [←HW1.out];clear HW1;go_wp2_with fail
 go_loopw [0,5,6,7,8] (fun v0 v5 v6 v7 v8 wr=>∃(text:ByteArray) (i:Nat) (S:ScB) (k:Nat) (vi vc vp:Value),v0= .string text∧v5= .int .i64 ((i+1:Nat):Int)∧Hid (PaI m T w w.heap.size (w.heap.size+1) text i S k vi vc vp wr)) (fun v0 _ _ _ _ _=>lenS v0)
 case atStart=>exact⟨T,0,scb0,0,_,_,_,rfl,rfl,HI⟩
 case round=>
  obtain⟨text,i,S,k,vi,vc,vp,rfl,rfl,HR⟩:=hrel;clear HI;have HC:Hid (Cx m w.heap.size wr):=hid ⟨w,rfl,HR.out.kp,HE.out⟩;have htz:text.size≤900000:=by have:=HR.out.sz;omega
  have hiz:i≤900000:=by have:=HR.out.sz;omega
  have HCu:=hid (Js6 m text wr (by omega) HC.out.env);go_wp2_with fail
  refine HCu.out.mono ?_;rintro e w2 ⟨⟨a,b,f,rfl,hc⟩,hb2⟩;have hcz:=Jpx hc;have HR2:=hid (HR.out.rd.later hb2);have HC2:=hid (HC.out.later hb2);have HK2:Hid (Kept RT w.heap.size w w2):=hid (HR.out.kp.trans (Kept.of_below hb2 RT _));have HX2:=hid ((hb2.block _ (lt_of_some HR.out.bx)).trans HR.out.bx);have HCt:=hid hc;clear hb2 hc HCu;cases f with
  |false=>
   have HP:Hid (parseS T.data.toList= .inr (i+1)):=hid (by unfold parseS;rw [←HR.out.pr,Jxt HCt.out]);have x2:=HX2.out;have y0:=Jaa x2 0;have y1:=Jaa x2 1;have y2:=Jaa x2 2;have y3:=Jaa x2 3;have y4:=Jaa x2 4;have y5:=Jaa x2 5;have z0:=Jab x2 0;have z1:=Jab x2 1;have z2:=Jab x2 2;have z3:=Jab x2 3;have z4:=Jab x2 4;have z5:=Jab x2 5;have x3:=Jlg x2 (.int .i64 0) (.int .i64 0) (.int .i64 0) (.slice none 0 0) (.slice none 0 0) (.slice none 0 0);have p0:=Jaa x3 0;have p1:=Jaa x3 1;have p2:=Jaa x3 2;have p3:=Jaa x3 3;have p4:=Jaa x3 4;have p5:=Jaa x3 5;have HF:Hid (ParsedO T w (.returned (.tuple #[scV scb0 (.slice none 0 0) (.slice none 0 0) (.slice none 0 0),.int .i64 ((i+1:Nat):Int)])) (put6 w2 w.heap.size (.int .i64 0) (.int .i64 0) (.int .i64 0) (.slice none 0 0) (.slice none 0 0) (.slice none 0 0))):=hid
    ⟨.inr ⟨i+1,HP.out,rfl⟩,Jet ((HK2.out.below (Nat.le_refl _))) (Nat.le_refl _) _ _ _ _ _ _⟩
   unfold put6 at p0 p1 p2 p3 p4 p5 HF;clear x2 x3 hcz htz hiz;go_wp2_with fail
   exact bodyPost_ret (v:= .tuple #[scV scb0 (.slice none 0 0) (.slice none 0 0) (.slice none 0 0),.int .i64 ((i+1:Nat):Int)]) (by simp [results,results7,go_sem,scV,scb0,p0,p1,p2,p3,p4,p5]) rfl HF.out
  |true=>
   have HT:=hid (Jvc m a i w.heap.size (w.heap.size+1) S k vi vc vp w2 (by omega) (by omega) HR.out.fb HR.out.k3 HR.out.k2 HC2.out HR2.out);have HZ:=hid (And.intro hcz (And.intro htz hiz));clear hcz htz hiz;go_wp2_with fail
   refine HT.out.mono ?_;rintro e w3 ⟨ho,hk3⟩;have HK3:=hid (HK2.out.trans hk3);have x3:=hk3.blk HX2.out (by unfold RT;decide);have HX3:=hid x3;clear hk3 HT HR2 HC2 HX2 HK2;rcases ho with⟨S',k',vi',vc',vp',htk,rfl,hrd,hfb,hk2⟩ |⟨htk,rfl⟩
   ·by_cases hbe:b.data.toList=[]
    ·have HP:Hid (parseS T.data.toList= .inl S'.m):=hid (by unfold parseS;rw [←HR.out.pr,Jw4 HCt.out htk hbe])
     have hb0:b=⟨#[]⟩:=Jbd (by rw [hbe]);subst hb0;have t1:((⟨#[]⟩:ByteArray).toList==[])=true:=by rw [to_list];rfl
     have y0:=Jaa x3 0;have y1:=Jaa x3 1;have y2:=Jaa x3 2;have y3:=Jaa x3 3;have y4:=Jaa x3 4;have y5:=Jaa x3 5;have z0:=Jab x3 0;have z1:=Jab x3 1;have z2:=Jab x3 2;have z3:=Jab x3 3;have z4:=Jab x3 4;have z5:=Jab x3 5;have r3:=hrd.blk;have q0:=Jaa hrd.blk 0;have q1:=Jaa hrd.blk 1;have q2:=Jaa hrd.blk 2;have q3:=Jaa hrd.blk 3;have q4:=Jaa hrd.blk 4;have q5:=Jaa hrd.blk 5;have x4:=Jlg x3 (.int .i64 S'.sh) (.int .i64 S'.rm) (.int .i64 S'.cu) vi' vc' vp';have p0:=Jaa x4 0;have p1:=Jaa x4 1;have p2:=Jaa x4 2;have p3:=Jaa x4 3;have p4:=Jaa x4 4;have p5:=Jaa x4 5;have hown:Own (put6 w3 w.heap.size (.int .i64 S'.sh) (.int .i64 S'.rm) (.int .i64 S'.cu) vi' vc' vp') w.heap.size S' vi' vc' vp':=by
      refine⟨Jin x3 (by decide) hrd.im _ _ _ _ _ _,hrd.cl.map fun he h=>Jin x3 (by rcases he with rfl |rfl<;>decide) h _ _ _ _ _ _,Jin x3 (by decide) hrd.pk _ _ _ _ _ _⟩
     obtain⟨A1,c1,h1,_⟩:=lru.own_facts hrd.im;obtain⟨vs,hvs,_⟩:=hrd.cl;obtain⟨A2,c2,h2,_⟩:=lru.own_facts hvs;obtain⟨A3,c3,h3,_⟩:=lru.own_facts hrd.pk;have HF:Hid (ParsedO T w (.returned (.tuple #[scV S' vi' vc' vp',.int .i64 0])) (put6 w3 w.heap.size (.int .i64 S'.sh) (.int .i64 S'.rm) (.int .i64 S'.cu) vi' vc' vp')):=hid
      ⟨.inl ⟨S',vi',vc',vp',HP.out,rfl,hown,by
        have hle:i+1≤T.size+1:=by have:=HR.out.sz;omega
        exact⟨hfb.sh,hfb.rm,hfb.cu,hfb.pk,hfb.op,Nat.le_trans hfb.li hle,Nat.le_trans hfb.lc hle,fun x hx=>Nat.le_trans (hfb.lo x hx) hle⟩⟩,Jet ((HK3.out.below (Nat.le_refl _))) (Nat.le_refl _) _ _ _ _ _ _⟩
     subst h1 h2 h3;unfold put6 at p0 p1 p2 p3 p4 p5 HF;clear x3 x4 r3 hrd hfb hk2 htk hown hvs hbe;go_wp2_with fail
     exact bodyPost_ret (v:= .tuple #[scV S' (.slice A1 S'.im.length c1) (.slice A2 S'.cl.length c2) (.slice A3 S'.pk.length c3),.int .i64 0]) (by simp [results,results7,go_sem,scV,p0,p1,p2,p3,p4,p5]) rfl HF.out
    ·have hbz:b.size≠0:=fun e=>hbe (by have:=size_list b;rw [e] at this;exact List.length_eq_zero_iff.1 this)
     have t1:(b.toList==[])=false:=by rw [Jat,decide_eq_false_iff_not];exact hbe
     have t2:b.toList.isEmpty=false:=by rw [to_list];cases hq:b.data.toList with
      |nil=>exact absurd hq hbe
      |cons=>rfl
     have HI:Hid (PaI m T w w.heap.size (w.heap.size+1) b (i+1) S' k' vi' vc' vp' w3):=hid
      ⟨by rw [←Jx5 HCt.out htk hbe];exact HR.out.pr,by have h1:=HR.out.sz;have h2:=HZ.out.1.2.2 trivial;omega,hrd,hfb,Jxf htk,hk2,HK3.out,HX3.out,Nat.le_refl _⟩
     have hws:IntKind.i64.wrap ((i:Int)+1+1)=(i:Int)+1+1:=IntWalk.i64_in _ ⟨by omega,by have:=HZ.out.2.2;omega⟩;clear x3 hrd hfb hk2 htk hbe;go_wp2_with fail
     go_roundw
     case rel=>exact⟨b,i+1,S',k',vi',vc',vp',rfl,by go_num,HI⟩
     case measure=>
      have h2:=HZ.out.1.2.2 trivial;simp only [lenS];omega
   ·have HP:Hid (parseS T.data.toList= .inr (i+1)):=hid (by unfold parseS;rw [←HR.out.pr,Jto HCt.out htk])
    have y0:=Jaa x3 0;have y1:=Jaa x3 1;have y2:=Jaa x3 2;have y3:=Jaa x3 3;have y4:=Jaa x3 4;have y5:=Jaa x3 5;have z0:=Jab x3 0;have z1:=Jab x3 1;have z2:=Jab x3 2;have z3:=Jab x3 3;have z4:=Jab x3 4;have z5:=Jab x3 5;have x4:=Jlg x3 (.int .i64 0) (.int .i64 0) (.int .i64 0) (.slice none 0 0) (.slice none 0 0) (.slice none 0 0);have p0:=Jaa x4 0;have p1:=Jaa x4 1;have p2:=Jaa x4 2;have p3:=Jaa x4 3;have p4:=Jaa x4 4;have p5:=Jaa x4 5;have HF:Hid (ParsedO T w (.returned (.tuple #[scV scb0 (.slice none 0 0) (.slice none 0 0) (.slice none 0 0),.int .i64 ((i+1:Nat):Int)])) (put6 w3 w.heap.size (.int .i64 0) (.int .i64 0) (.int .i64 0) (.slice none 0 0) (.slice none 0 0) (.slice none 0 0))):=hid
     ⟨.inr ⟨i+1,HP.out,rfl⟩,Jet ((HK3.out.below (Nat.le_refl _))) (Nat.le_refl _) _ _ _ _ _ _⟩
    unfold put6 at p0 p1 p2 p3 p4 p5 HF;clear x3 x4 htk;go_wp2_with fail
    exact bodyPost_ret (v:= .tuple #[scV scb0 (.slice none 0 0) (.slice none 0 0) (.slice none 0 0),.int .i64 ((i+1:Nat):Int)]) (by simp [results,results7,go_sem,scV,scb0,p0,p1,p2,p3,p4,p5]) rfl HF.out
end Go.Proofs.YtekekhgjobahaaaGreatDoor.scr
