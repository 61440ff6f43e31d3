import Derived.Test.YtekekhgjobahaaaGreatDoorE1
set_option maxHeartbeats 6400000
set_option maxRecDepth 100000
open Go.Lib (hid)
open Go.Proofs.Tryz
namespace Go.Proofs.YtekekhgjobahaaaGreatDoor.ima
open Go.RowKit words ext name tre

def mkB (l:List UInt8):ByteArray:=⟨l.toArray⟩
theorem mkB_size (l:List UInt8):(mkB l).size=l.length:=rfl
theorem rput (l:List UInt8) (n:Int) (s:Nat) (w:World) (h1:1≤s) (h2:s≤4) (h3:0≤n) (h64:n≤9223372036854775807) (ht:l.length≤1000000000):
  Calls prog 62 #[.string (mkB l),.int .i64 n,.int .i64 (s:Int)] w fun e w'=>e= .returned (.string (mkB (l++be n s)))∧Below w.heap.size w w':=
 Joq (mkB l) n s w h1 h2 h3 h64 ht

def takeP (k:Nat) (l:List UInt8):Option (Nat×List UInt8):=if k≤l.length then some (num (l.take k),l.drop k) else none
def textP (k:Nat) (l:List UInt8):Option (List UInt8×List UInt8):=
 match takeP k l with
 |none=>none
 |some (v,l')=>if v≤l'.length then some (l'.take v,l'.drop v) else none
abbrev Rz:TypeId→Prop:=fun t=>t=230∨t=194
def Rr (w:World) (B g h:Nat) (l:List UInt8) (c:Int) (f:Bool):Prop:=
 B≤g∧B≤h∧w.heap[g]?=some (.cells #[.pointer (some ⟨h,0,none⟩),.int .i64 c,.bool f] 194 (0,0))∧∃s:ByteArray,s.data.toList=l∧s.size≤4194304∧Rd h s w
theorem Rr.frame {w w':World} {B g h:Nat} {l:List UInt8} {c:Int} {f:Bool} (hr:Rr w B g h l c f) (hk:∀k,k<w.heap.size→w'.heap[k]?=w.heap[k]?):Rr w' B g h l c f:=by
 obtain⟨h1,h2,h3,s,h4,h5,h6⟩:=hr;exact⟨h1,h2,(hk g (lt_of_some h3)).trans h3,s,h4,h5,(hk h (lt_of_some h6)).trans h6⟩
theorem Rr.fail {w:World} {B g h:Nat} {l:List UInt8} {c:Int} {f:Bool} (hr:Rr w B g h l c f) (f':Bool):Rr (w.setCell ⟨g,2,none⟩ (.bool f')) B g h l c f'∧words.Kept Rz B w (w.setCell ⟨g,2,none⟩ (.bool f')):=by
 obtain⟨h1,h2,h3,s,h4,h5,h6⟩:=hr;have hne:h≠g:=Jas h6 h3 (by decide);exact⟨⟨h1,h2,heap_setCell_same w g 2 _ _ (.bool f') h3,s,h4,h5,(Below.heap_setCell w ⟨g,2,none⟩ _ h hne).trans h6⟩,(words.Kept.refl Rz B w).setCell (p:=⟨g,2,none⟩) h1 ⟨_,_,_,h3,.inr rfl⟩ _⟩
theorem Rr.cells {w:World} {B g h:Nat} {l:List UInt8} {c:Int} {f:Bool} (hr:Rr w B g h l c f):w.cell? ⟨g,0,none⟩=some (.pointer (some ⟨h,0,none⟩))∧w.cell? ⟨g,1,none⟩=some (.int .i64 c)∧w.cell? ⟨g,2,none⟩=some (.bool f)∧w.frozen? ⟨g,2,none⟩=false∧w.frozen? ⟨g,1,none⟩=false:=by
 obtain⟨_,_,h3,_⟩:=hr;exact⟨Jaa h3 0,Jaa h3 1,Jaa h3 2,Jab h3 2,Jab h3 1⟩
def Took (B g h k:Nat) (l:List UInt8) (c:Int) (f:Bool) (w:World) (e:Ending) (w':World):Prop:=
 ((∃(v:Nat) (l':List UInt8),takeP k l=some (v,l')∧e= .returned (.int .i64 (v:Int))∧Rr w' B g h l' c f)∨(takeP k l=none∧e= .returned (.int .i64 0)∧Rr w' B g h l c true))∧words.Kept Rz B w w'
theorem Jl9 {B:Nat} {w w':World} (h:words.Kept Rs B w w'):words.Kept Rz B w w':=
 ⟨h.os,h.tape,h.output,h.size,fun k hk hc=>h.block k hk (hc.imp id fun hc cs t f hw hs=>hc cs t f hw (.inl hs))⟩
theorem itake (k B g h:Nat) (l:List UInt8) (c:Int) (f:Bool) (w:World) (hr:Rr w B g h l c f) (h1:1≤k) (h4:k≤4):
  Calls prog 145 #[.pointer (some ⟨g,0,none⟩),.int .i64 (k:Int)] w (Took B g h k l c f w):=by
 obtain⟨c0,c1,c2,f2,_⟩:=hr.cells;have hr':=hr;obtain⟨hg,hh,h3,s,hsl,hsz,hrd⟩:=hr';have hsl2:l.length=s.size:=by rw [←hsl,ext.size_list]
 by_cases hlt:k≤s.size
 ·have hT:=Jih h s k w hrd h1 h4 hlt (by simp only [maxLen];omega)
  have hset:=Jkm (B:=B) (t:=s.extract k s.size) hrd hh;obtain⟨W1,hW1⟩:=words.nm (w.setCell ⟨h,0,none⟩ (.string (s.extract k s.size)));rw [←hW1] at hT hset;have hne:g≠h:=Jas h3 hrd (by decide);have hr1:Rr W1 B g h (l.drop k) c f:=⟨hg,hh,by rw [hW1];exact (Below.heap_setCell w ⟨h,0,none⟩ _ g hne).trans h3,_,by rw [Jil,hsl],by rw [ByteArray.size_extract];omega,hset.1⟩
  obtain⟨v,hv⟩:=words.nm (num (s.data.toList.take k));rw [←hv] at hT;have htp:takeP k l=some (v,l.drop k):=by unfold takeP;rw [if_pos (by omega),hv,hsl]
  have hfin:=hr1.fail f;have HT:=hid hT;have HF:=hid (And.intro htp (And.intro hfin.1 ((Jl9 hset.2).trans hfin.2)));have HR1:=hid hr1;clear hr h3 hrd hT hset hW1 hr1 hv htp hfin hsl;go_enter func145,ntmps145
  go_wp2_with fail
  refine HT.out.mono ?_;rintro e w1 ⟨rfl,rfl⟩;clear c0 c1 c2 f2;obtain⟨c0,c1,c2,f2,_⟩:=HR1.out.cells;clear HT HR1;cases f
  ·go_wp2_with fail
   go_ret
   exact⟨.inl ⟨v,_,HF.out.1,rfl,HF.out.2.1⟩,HF.out.2.2⟩
  ·go_wp2_with fail
   go_ret
   exact⟨.inl ⟨v,_,HF.out.1,rfl,HF.out.2.1⟩,HF.out.2.2⟩
 ·have hT:=Jr9 h s (k:Int) w hrd (.inr (.inr (by omega)))
  have htp:takeP k l=none:=by unfold takeP;rw [if_neg (by omega)]
  have hfin:=hr.fail true;have HT:=hid hT;have HF:=hid (And.intro htp hfin);clear hr h3 hrd hT htp hfin hsl;go_enter func145,ntmps145
  go_wp2_with fail
  refine HT.out.mono ?_;rintro e w1 ⟨rfl,rfl⟩;clear HT;cases f
  ·go_wp2_with fail
   go_ret
   exact⟨.inr ⟨HF.out.1,rfl,HF.out.2.1⟩,HF.out.2.2⟩
  ·go_wp2_with fail
   go_ret
   exact⟨.inr ⟨HF.out.1,rfl,HF.out.2.1⟩,HF.out.2.2⟩
theorem sclone (s:ByteArray) (w:World) (hs:s.size≤4194304):Calls prog 178 #[.string s] w fun e w'=>e= .returned (.string s)∧Below w.heap.size w w':=by
 have H:=hid (Tryz.stringslite_Clone s w (by omega));go_enter func178,ntmps178
 go_wp2_with fail
 refine H.out.mono ?_;rintro e w1 ⟨rfl,hb⟩;have HB:=hid hb;clear hb H;go_wp2_with fail
 go_ret
 exact⟨rfl,HB.out⟩
def Texted (B g h k:Nat) (l:List UInt8) (c:Int) (f:Bool) (w:World) (e:Ending) (w':World):Prop:=
 ((∃(x:ByteArray) (l':List UInt8),textP k l=some (x.data.toList,l')∧e= .returned (.string x)∧Rr w' B g h l' c f)∨(textP k l=none∧e= .returned (.string ⟨#[]⟩)∧Rr w' B g h l c true))∧words.Kept Rz B w w'
theorem Jpe {k:Nat} {l:List UInt8} (h1:k≤l.length) (h2:k+num (l.take k)≤l.length):textP k l=some ((l.drop k).take (num (l.take k)),l.drop (k+num (l.take k))):=by
 unfold textP takeP;rw [if_pos h1];show (if num (l.take k)≤(l.drop k).length then _ else _)=_;rw [if_pos (by rw [List.length_drop];omega),List.drop_drop]
theorem Jol {k:Nat} {l:List UInt8} (h:¬(k≤l.length∧k+num (l.take k)≤l.length)):textP k l=none:=by
 unfold textP takeP;by_cases h1:k≤l.length
 ·rw [if_pos h1]
  show (if num (l.take k)≤(l.drop k).length then _ else _)=_;rw [if_neg (by rw [List.length_drop];omega)]
 ·rw [if_neg h1]
theorem Jkx (k B g h:Nat) (l:List UInt8) (c:Int) (f:Bool) (w:World) (hr:Rr w B g h l c f) (h1:1≤k) (h4:k≤4):
  Calls prog 148 #[.pointer (some ⟨g,0,none⟩),.int .i64 (k:Int)] w (Texted B g h k l c f w):=by
 obtain⟨c0,c1,c2,f2,_⟩:=hr.cells;have hr':=hr;obtain⟨hg,hh,h3,s,hsl,hsz,hrd⟩:=hr';have hsl2:l.length=s.size:=by rw [←hsl,ext.size_list]
 have hgl:=lt_of_some h3;by_cases hok:k≤l.length∧k+num (l.take k)≤l.length
 ·have hT:=Jsu h B s k w hrd hh h1 h4 (by omega) (by simp only [maxLen];omega) (by rw [hsl];omega)
  have htp:=Jpe hok.1 hok.2;have HT:=hid hT;have H3:=hid h3;have HP:=hid htp;have HL:=hid hsl;clear hr h3 hrd hT hsl htp;go_enter func148,ntmps148
  go_wp2_with fail
  refine HT.out.mono ?_;rintro e w1 ⟨x,s',rfl,hx,hs',hrd1,hk1⟩;rw [HL.out] at hx hs';have hb1:w1.heap[g]?=some (.cells #[.pointer (some ⟨h,0,none⟩),.int .i64 c,.bool f] 194 (0,0)):=hk1.blk H3.out (by decide);have hs'z:s'.size≤4194304:=by
   have e:=congrArg List.length hs';rw [ext.size_list,List.length_drop] at e;omega
  have hxz:x.size≤4194304:=by
   have e:=congrArg List.length hx;rw [ext.size_list,List.length_take,List.length_drop] at e;omega
  have hr1:Rr w1 B g h (l.drop (k+num (l.take k))) c f:=⟨hg,hh,hb1,s',hs',hs'z,hrd1⟩
  have hfin:=hr1.fail f;obtain⟨W2,hW2⟩:=words.nm (w1.setCell ⟨g,2,none⟩ (.bool f));rw [←hW2] at hfin;have HC:=hid (sclone x W2 hxz);have hpp:textP k l=some (x.data.toList,l.drop (k+num (l.take k))):=by rw [HP.out,hx]
  have HF:=hid (And.intro hpp (And.intro hfin.1 ((Jl9 hk1).trans hfin.2)));have HW2:=hid hW2;clear c0 c1 c2 f2;obtain⟨c0,c1,c2,f2,_⟩:=hr1.cells;clear HT hr1 hfin hW2 hb1 hrd1 hk1 hx hs' hs'z hxz hpp HP HL;cases f
  ·go_upto_region 3 with fail
   rw [←HW2.out];clear c0 c1 c2 f2;go_wp2_with fail
   refine HC.out.mono ?_;rintro e w3 ⟨rfl,hb3⟩;have HB3:=hid hb3;clear hb3 HC HW2;go_wp2_with fail
   go_ret
   exact⟨.inl ⟨x,_,HF.out.1,rfl,HF.out.2.1.frame HB3.out.block⟩,HF.out.2.2.trans (words.Kept.of_below HB3.out _ _)⟩
  ·go_upto_region 3 with fail
   rw [←HW2.out];clear c0 c1 c2 f2;go_wp2_with fail
   refine HC.out.mono ?_;rintro e w3 ⟨rfl,hb3⟩;have HB3:=hid hb3;clear hb3 HC HW2;go_wp2_with fail
   go_ret
   exact⟨.inl ⟨x,_,HF.out.1,rfl,HF.out.2.1.frame HB3.out.block⟩,HF.out.2.2.trans (words.Kept.of_below HB3.out _ _)⟩
 ·have htp:=Jol hok
  have hT:Calls prog 177 #[.pointer (some ⟨h,0,none⟩),.int .i64 (k:Int)] w fun e w'=>e= .returned (.tuple #[.string ⟨#[]⟩,.bool false])∧Rd h s w'∧words.Kept Rs B w w':=by
   by_cases hlt:k≤s.size
   ·exact Jpw h B s k w hrd hh h1 h4 hlt (by simp only [maxLen];omega) (by rw [hsl];omega)
   ·exact (Jua h s (k:Int) w hrd (.inr (.inr (by omega)))).mono fun _ _ ⟨he,hw⟩=>⟨he,by rw [←hw];exact hrd,by rw [←hw];exact words.Kept.refl _ _ _⟩
  have HT:=hid hT;have H3:=hid h3;have HP:=hid htp;have HL:=hid hsl;clear hr h3 hrd hT hsl htp hok;go_enter func148,ntmps148
  go_wp2_with fail
  refine HT.out.mono ?_;rintro e w1 ⟨rfl,hrd1,hk1⟩;have hb1:w1.heap[g]?=some (.cells #[.pointer (some ⟨h,0,none⟩),.int .i64 c,.bool f] 194 (0,0)):=hk1.blk H3.out (by decide);have hr1:Rr w1 B g h l c f:=⟨hg,hh,hb1,s,HL.out,hsz,hrd1⟩
  have hfin:=hr1.fail true;obtain⟨W2,hW2⟩:=words.nm (w1.setCell ⟨g,2,none⟩ (.bool true));rw [←hW2] at hfin;have HC:=hid (sclone ⟨#[]⟩ W2 (by decide));have HF:=hid (And.intro HP.out (And.intro hfin.1 ((Jl9 hk1).trans hfin.2)));have HW2:=hid hW2;clear c0 c1 c2 f2;obtain⟨c0,c1,c2,f2,_⟩:=hr1.cells;clear HT hr1 hfin hW2 hb1 hrd1 hk1 HP HL;cases f
  ·go_upto_region 3 with fail
   rw [←HW2.out];clear c0 c1 c2 f2;go_wp2_with fail
   refine HC.out.mono ?_;rintro e w3 ⟨rfl,hb3⟩;have HB3:=hid hb3;clear hb3 HC HW2;go_wp2_with fail
   go_ret
   exact⟨.inr ⟨HF.out.1,rfl,HF.out.2.1.frame HB3.out.block⟩,HF.out.2.2.trans (words.Kept.of_below HB3.out _ _)⟩
  ·go_upto_region 3 with fail
   rw [←HW2.out];clear c0 c1 c2 f2;go_wp2_with fail
   refine HC.out.mono ?_;rintro e w3 ⟨rfl,hb3⟩;have HB3:=hid hb3;clear hb3 HC HW2;go_wp2_with fail
   go_ret
   exact⟨.inr ⟨HF.out.1,rfl,HF.out.2.1.frame HB3.out.block⟩,HF.out.2.2.trans (words.Kept.of_below HB3.out _ _)⟩
theorem Jq3 (v:Nat):((v:Int)==1)=decide (v=1):=by
 by_cases h:v=1
 ·subst h;rfl
 ·rw [decide_eq_false h,beq_eq_false_iff_ne]
  omega
def Truthed (B g h:Nat) (l:List UInt8) (c:Int) (f:Bool) (w:World) (e:Ending) (w':World):Prop:=
 ((∃(v:Nat) (l':List UInt8),takeP 1 l=some (v,l')∧e= .returned (.bool (decide (v=1)))∧Rr w' B g h l' c (f||decide (1<v)))∨(takeP 1 l=none∧e= .returned (.bool false)∧Rr w' B g h l c true))∧words.Kept Rz B w w'
theorem itruth (B g h:Nat) (l:List UInt8) (c:Int) (f:Bool) (w:World) (hr:Rr w B g h l c f):
  Calls prog 176 #[.pointer (some ⟨g,0,none⟩)] w (Truthed B g h l c f w):=by
 have HT:=hid (itake 1 B g h l c f w hr (by decide) (by decide));clear hr;go_enter func176,ntmps176
 go_wp2_with fail
 refine HT.out.mono ?_;rintro e w1 ⟨⟨v,l',ht,rfl,hr1⟩ |⟨ht,rfl,hr1⟩,hk1⟩
 ·obtain⟨c0,c1,c2,f2,_⟩:=hr1.cells
  have hfin:=hr1.fail (f||decide (1<v));have HF:=hid (And.intro ht (And.intro hfin.1 (hk1.trans hfin.2)));clear ht hr1 hk1 hfin HT;cases f
  ·by_cases hv:1<v
   ·have g1:decide ((1:Int)<(v:Int))=true:=decide_eq_true (by omega)
    have g2:decide (1<v)=true:=by simpa using hv
    have g3:decide (v=1)=false:=by simp;omega
    have g4:((v:Int)==1)=false:=by simp;omega
    rw [g2] at HF;go_wp2_with fail
    go_ret
    refine⟨.inl ⟨v,l',HF.out.1,?_,by rw [g2];exact HF.out.2.1⟩,HF.out.2.2⟩;simp;omega
   ·have g1:decide ((1:Int)<(v:Int))=false:=by simp;omega
    have g2:decide (1<v)=false:=by simp;omega
    rw [g2] at HF;go_wp2_with fail
    go_ret
    refine⟨.inl ⟨v,l',HF.out.1,?_,by rw [g2];exact HF.out.2.1⟩,HF.out.2.2⟩;simp [Jq3]
  ·go_wp2_with fail
   go_ret
   refine⟨.inl ⟨v,l',HF.out.1,?_,HF.out.2.1⟩,HF.out.2.2⟩;simp [Jq3]
 ·obtain⟨c0,c1,c2,f2,_⟩:=hr1.cells
  have hfin:=hr1.fail true;have HF:=hid (And.intro ht (And.intro hfin.1 (hk1.trans hfin.2)));clear ht hr1 hk1 hfin HT;go_wp2_with fail
  go_ret
  exact⟨.inr ⟨HF.out.1,rfl,HF.out.2.1⟩,HF.out.2.2⟩


def exP:Nat→List UInt8→Option (List Ex×List UInt8)
 |0,l=>some ([],l)
 |k+1,l=>match takeP 4 l with
  |none=>none
  |some (o,l1)=>match textP 4 l1 with
   |none=>none
   |some (x,l2)=>match exP k l2 with
    |none=>none
    |some (E,l3)=>some (⟨(o:Int),mkB x⟩::E,l3)
def fileP (l:List UInt8):Option (Nat×List Ex×List UInt8):=match takeP 4 l with
 |none=>none
 |some (s,l1)=>match takeP 4 l1 with
  |none=>none
  |some (k,l2)=>match exP k l2 with
   |none=>none
   |some (E,l3)=>some (s,E,l3)
def itP (P:Nat→List UInt8→Option (Nd×List UInt8×Nat)):Nat→Nat→List UInt8→Option (List ByteArray×List Nd×List UInt8×Nat)
 |0,c,l=>some ([],[],l,c)
 |k+1,c,l=>match textP 1 l with
  |none=>none
  |some (s,l1)=>match P c l1 with
   |none=>none
   |some (x,l2,c2)=>match itP P k c2 l2 with
    |none=>none
    |some (N,I,l3,c3)=>some (mkB s::N,x::I,l3,c3)
def dirP (P:Nat→List UInt8→Option (Nd×List UInt8×Nat)) (c:Nat) (l:List UInt8):Option (Bool×List ByteArray×List Nd×List UInt8×Nat):=match takeP 1 l with
 |none=>none
 |some (o,l1)=>if 1<o then none else match takeP 2 l1 with
  |none=>none
  |some (k,l2)=>match itP P k c l2 with
   |none=>none
   |some (N,I,l3,c3)=>some (decide (o=1),N,I,l3,c3)
def nodeP:Nat→Nat→List UInt8→Option (Nd×List UInt8×Nat)
 |0,_,_=>none
 |f+1,c,l=>if 4096<c+1 then none else match takeP 1 l with
  |none=>none
  |some (k,l1)=>
   if k=1 then (match fileP l1 with |none=>none |some (s,E,l2)=>some (.mk 1 false [] [] (s:Int) E ⟨#[]⟩,l2,c+1))
   else if k=2 then (match dirP (nodeP f) (c+1) l1 with |none=>none |some (o,N,I,l2,c2)=>some (.mk 2 o N I 0 [] ⟨#[]⟩,l2,c2))
   else if k=3 then (match textP 2 l1 with |none=>none |some (t,l2)=>some (.mk 3 false [] [] 0 [] (mkB t),l2,c+1))
   else some (.mk (k:Int) false [] [] 0 [] ⟨#[]⟩,l1,c+1)
theorem Jh5 {k:Nat} {l l1 l2:List UInt8} {o:Nat} {x:List UInt8} (h1:takeP 4 l=some (o,l1)) (h2:textP 4 l1=some (x,l2)):exP (k+1) l=match exP k l2 with |none=>none |some (E,l3)=>some (⟨(o:Int),mkB x⟩::E,l3):=by
 rw [exP,h1];show (match textP 4 l1 with |none=>none |some (x,l2)=>_)=_;rw [h2]
theorem Jrn {k:Nat} {l:List UInt8} (h1:takeP 4 l=none):exP (k+1) l=none:=by rw [exP,h1]
theorem Jri {k:Nat} {l l1:List UInt8} {o:Nat} (h1:takeP 4 l=some (o,l1)) (h2:textP 4 l1=none):exP (k+1) l=none:=by
 rw [exP,h1];show (match textP 4 l1 with |none=>none |some (x,l2)=>_)=_;rw [h2]
theorem Jgh {k v:Nat} {l l':List UInt8} (h:takeP k l=some (v,l')) (hk:k≤4):l'.length+k=l.length∧v<4294967296:=by
 unfold takeP at h;split at h
 ·injection h with h
  injection h with h1 h2;subst h1 h2;have hn:=Je5 k (l.take k) (by rw [List.length_take];omega);have hp:256 ^ k≤256 ^ 4:=Nat.pow_le_pow_right (by omega) hk;refine⟨by rw [List.length_drop];omega,by omega⟩
 ·cases h
theorem Jqc {k:Nat} {l x l':List UInt8} (h:textP k l=some (x,l')) (hk:k≤4):l'.length+k+x.length=l.length:=by
 unfold textP at h;rcases ht:takeP k l with _ |⟨v,l1⟩
 ·rw [ht] at h;cases h
 ·rw [ht] at h
  have:=(Jgh ht hk).1;change (if v≤l1.length then some (l1.take v,l1.drop v) else none)=_ at h;split at h
  ·injection h with h
   injection h with h1 h2;subst h1 h2;rw [List.length_drop,List.length_take];omega
  ·cases h
def fileN (K:Int) (S:Int) (E:List Ex):Nd:= .mk K false [] [] S E ⟨#[]⟩
structure Fst (W wr:World) (B g h gn:Nat) (K S:Int) (E:List Ex) (Ae:Option Addr) (ce:Nat) (l:List UInt8) (c:Int) (f:Bool):Prop where
 rr:Rr wr B g h l c f
 kp:words.Kept Rz B W wr
 box:Box wr gn (fileN K S E) ⟨none,0,none,0,Ae,ce⟩
 row:wr.ownsRow W.heap.size 131 2 (.slice Ae E.length ce) E.length (exCells E)
 ins:∀(i:Nat) (x:Ex),E[i]?=some x→ -9223372036854775808≤x.O∧x.O≤9223372036854775807∧x.D.size≤140737488355328
theorem Rr.setBox {w:World} {B g h gn j:Nat} {l:List UInt8} {c:Int} {f:Bool} {n:Nd} {q:Raw} (hr:Rr w B g h l c f) (hb:Box w gn n q) (u:Value):Rr (w.setCell ⟨gn,j,none⟩ u) B g h l c f:=by
 obtain⟨h1,h2,h3,s,h4,h5,h6⟩:=hr;exact⟨h1,h2,(Below.heap_setCell w ⟨gn,j,none⟩ u g (Jas h3 hb (by decide))).trans h3,s,h4,h5,(Below.heap_setCell w ⟨gn,j,none⟩ u h (Jas h6 hb (by decide))).trans h6⟩
theorem Rr.grown {w w1:World} {B B' g h n size:Nat} {l:List UInt8} {c:Int} {f:Bool} {v:Value} {xs:List Value} {E:TypeId} (hr:Rr w B g h l c f) (hg:w.grownBy w1 v.ownBlock) (ho:w.ownsRow B' E size v n xs) (hE:¬Rz E):Rr w1 B g h l c f:=by
 obtain⟨h1,h2,h3,s,h4,h5,h6⟩:=hr;exact⟨h1,h2,(hg.block g (lt_of_some h3) fun e=>Jap ho h3 (fun e=>hE (.inr e)) e.symm).trans h3,s,h4,h5,(hg.block h (lt_of_some h6) fun e=>Jap ho h6 (fun e=>hE (.inl e)) e.symm).trans h6⟩
theorem Fst.put {W w w1:World} {o:Obj} {B g h gn:Nat} {K S:Int} {E:List Ex} {Ae:Option Addr} {ce:Nat} {l:List UInt8} {c:Int} {f:Bool} {x:Ex} {A':Option Addr} {c':Nat} (hs:Fst W w B g h gn K S E Ae ce l c f) (hgn:W.heap.size≤gn)
  (hx: -9223372036854775808≤x.O∧x.O≤9223372036854775807∧x.D.size≤140737488355328) (hown:w1.ownsRow W.heap.size 131 2 (.slice A' (E.length+1) c') (E.length+1) (exCells E++[.int .i64 x.O,.string x.D])) (hg:(w.alloc o).grownBy w1 (Value.slice Ae E.length ce).ownBlock):
  Fst W (w1.setCell ⟨gn,5,none⟩ (.slice A' (E.length+1) c')) B g h gn K S (E++[x]) A' c' l c f:=by
 have hro:(w.alloc o).ownsRow W.heap.size 131 2 (.slice Ae E.length ce) E.length (exCells E):=Jbs hs.row ((Below.refl _ _).alloc (Nat.le_refl _) _);have hbo:Box (w.alloc o) gn (fileN K S E) ⟨none,0,none,0,Ae,ce⟩:=hs.box.alloc o;have hb1:Box w1 gn (fileN K S E) ⟨none,0,none,0,Ae,ce⟩:=hbo.grown hg fun e=>Jap hro hbo (by decide) e.symm;have hr1:Rr w1 B g h l c f:=(hs.rr.frame fun k hk=>Below.heap_alloc w o k hk).grown hg hro (by decide);have hk1:words.Kept Rz B W w1:=by
  have hka:=hs.kp.alloc o;refine⟨hg.os.trans hka.os,hg.tape.trans hka.tape,hg.output.trans hka.output,Nat.le_trans hka.size hg.size,fun k hk hc=>?_⟩;refine (hg.block k (Nat.lt_of_lt_of_le hk hka.size) fun e=>?_).trans (hka.block k hk hc);have:=(hro.lt k e.symm).1;omega
 refine⟨hr1.setBox hb1 _,Ja4 hk1 hgn _,?_,?_,fun i y hy=>?_⟩
 ·have h5:=heap_setCell_same w1 gn 5 _ _ (.slice A' (E.length+1) c') hb1
  unfold Box;rw [h5];unfold rawCells fileN;simp [Nd.E,Nd.K,Nd.O,Nd.N,Nd.I,Nd.S,Nd.T]
 ·have e1:exCells (E++[x])=exCells E++[.int .i64 x.O,.string x.D]:=by rw [Jg6];rfl
  have e2:(E++[x]).length=E.length+1:=by simp
  rw [e1,e2];exact Jad hown (Jap hown (show w1.heap[gn]?=some (.cells (rawCells (fileN K S E) ⟨none,0,none,0,Ae,ce⟩) 46 (0,0)) from hb1) (by decide)) _
 ·rcases Nat.lt_or_ge i E.length with hi |hi
  ·rw [List.getElem?_append_left hi] at hy
   exact hs.ins i y hy
  ·rw [List.getElem?_append_right hi] at hy
   rw [←List.mem_singleton.1 (List.mem_of_getElem? hy)] at hx;exact hx

theorem infoExtent:(Tryz.prog.info? 131).map (fun i=>(i.zero,i.size,i.bytes))=some (some (.agg #[.int .i64 0,.string ⟨#[]⟩]),2,24):=by kernel_rfl
theorem Took.one {B g h k:Nat} {l:List UInt8} {c:Int} {f:Bool} {w:World} {e:Ending} {w':World} (ht:Took B g h k l c f w e w') (hk:k≤4):
  ∃(v:Nat) (l':List UInt8) (f':Bool),e= .returned (.int .i64 (v:Int))∧v<4294967296∧Rr w' B g h l' c f'∧words.Kept Rz B w w'∧l'.length≤l.length∧
   (f'=false→f=false∧takeP k l=some (v,l')∧l'.length+k=l.length)∧(f=false→f'=true→takeP k l=none):=by
 obtain⟨h1 |h1,hkp⟩:=ht
 ·obtain⟨v,l',hp,he,hr⟩:=h1
  have hl:=Jgh hp hk;refine⟨v,l',f,he,hl.2,hr,hkp,by omega,fun hf=>⟨hf,hp,hl.1⟩,fun h1 h2=>?_⟩;rw [h1] at h2;cases h2
 ·obtain⟨hp,he,hr⟩:=h1
  refine⟨0,l,true,he,by omega,hr,hkp,by omega,fun h1=>?_,fun _ _=>hp⟩;cases h1
theorem Texted.one {B g h k:Nat} {l:List UInt8} {c:Int} {f:Bool} {w:World} {e:Ending} {w':World} (ht:Texted B g h k l c f w e w') (hk:k≤4) (hll:l.length≤4194304):
  ∃(x:ByteArray) (l':List UInt8) (f':Bool),e= .returned (.string x)∧x.size≤4194304∧Rr w' B g h l' c f'∧words.Kept Rz B w w'∧l'.length≤l.length∧
   (f'=false→f=false∧textP k l=some (x.data.toList,l')∧l'.length+k+x.size=l.length)∧(f=false→f'=true→textP k l=none):=by
 obtain⟨h1 |h1,hkp⟩:=ht
 ·obtain⟨x,l',hp,he,hr⟩:=h1
  have hl:=Jqc hp hk;rw [ext.size_list] at hl;refine⟨x,l',f,he,by omega,hr,hkp,by omega,fun hf=>⟨hf,hp,hl⟩,fun h1 h2=>?_⟩;rw [h1] at h2;cases h2
 ·obtain⟨hp,he,hr⟩:=h1
  refine⟨⟨#[]⟩,l,true,he,by show 0≤4194304;omega,hr,hkp,by omega,fun h1=>?_,fun _ _=>hp⟩;cases h1
def Filed (W:World) (B g h gn:Nat) (K:Int) (l:List UInt8) (c:Int) (f:Bool) (w':World):Prop:=
 ∃(S:Nat) (E:List Ex) (Ae:Option Addr) (ce:Nat) (l':List UInt8) (f':Bool),S<4294967296∧E.length≤600000∧l'.length≤l.length∧Fst W w' B g h gn K (S:Int) E Ae ce l' c f'∧
  (f'=false→f=false∧fileP l=some (S,E,l'))∧(f=false→f'=true→fileP l=none)
theorem Fst.size {W wr:World} {B g h gn:Nat} {K S S':Int} {E:List Ex} {Ae:Option Addr} {ce:Nat} {l:List UInt8} {c:Int} {f:Bool} (hs:Fst W wr B g h gn K S E Ae ce l c f) (hgn:W.heap.size≤gn):Fst W (wr.setCell ⟨gn,4,none⟩ (.int .i64 S')) B g h gn K S' E Ae ce l c f:=by
 refine⟨hs.rr.setBox hs.box _,Ja4 hs.kp hgn _,?_,Jad hs.row (Jap hs.row (show wr.heap[gn]?=some (.cells (rawCells (fileN K S E) ⟨none,0,none,0,Ae,ce⟩) 46 (0,0)) from hs.box) (by decide)) _,hs.ins⟩;have h5:=heap_setCell_same wr gn 4 _ _ (.int .i64 S') hs.box;unfold Box;rw [h5];unfold rawCells fileN;simp [Nd.E,Nd.K,Nd.O,Nd.N,Nd.I,Nd.S,Nd.T]
theorem Fst.read {W wr w':World} {B g h gn:Nat} {K S:Int} {E:List Ex} {Ae:Option Addr} {ce:Nat} {l l':List UInt8} {c:Int} {f f':Bool} (hs:Fst W wr B g h gn K S E Ae ce l c f) (hr:Rr w' B g h l' c f') (hk:words.Kept Rz B wr w'):Fst W w' B g h gn K S E Ae ce l' c f':=
 ⟨hr,hs.kp.trans hk,hk.blk hs.box (by decide),hk.own hs.row (by decide),hs.ins⟩
theorem Fst.stay {W w w1:World} {o:Obj} {B g h gn:Nat} {K S:Int} {E:List Ex} {Ae:Option Addr} {ce:Nat} {l:List UInt8} {c:Int} {f:Bool} (hs:Fst W w B g h gn K S E Ae ce l c f) (hg:(w.alloc o).grownBy w1 (Value.slice Ae E.length ce).ownBlock):Box w1 gn (fileN K S E) ⟨none,0,none,0,Ae,ce⟩:=
 (hs.box.alloc o).grown hg fun e=>Jap (Jbs hs.row ((Below.refl _ _).alloc (Nat.le_refl _) o)) (hs.box.alloc o) (by decide) e.symm
def exJ (E:List Ex) (o:Option (List Ex×List UInt8)):Option (List Ex×List UInt8):=o.map fun p=>(E++p.1,p.2)
theorem Ju2 {k:Nat} {l l1 l2:List UInt8} {o:Nat} {x:ByteArray} {E:List Ex} (h1:takeP 4 l=some (o,l1)) (h2:textP 4 l1=some (x.data.toList,l2)):exJ E (exP (k+1) l)=exJ (E++[⟨(o:Int),x⟩]) (exP k l2):=by
 rw [Jh5 h1 h2,show mkB x.data.toList=x from rfl];rcases exP k l2 with _ |⟨E',l3⟩
 ·rfl
 ·simp [exJ]
structure Fl (l l2 l3:List UInt8) (f2 f3:Bool) (cnt i:Nat) (E:List Ex):Prop where
 le:i≤cnt
 few:i≤524289
 len:E.length=i
 sh:l3.length≤l.length
 yes:f3=false→f2=false∧8*i+l3.length≤l.length∧exP cnt l2=exJ E (exP (cnt - i) l3)
 no:f2=false→f3=true→exP cnt l2=none
theorem Fl.more {l l2 l3 l4 l5:List UInt8} {f2 f4 f5:Bool} {cnt i:Nat} {E:List Ex} {v:Nat} {x:ByteArray} (hf:Fl l l2 l3 f2 false cnt i E) (hi:i<cnt) (hll:l.length≤4194304) (q1:l4.length≤l3.length) (q2:l5.length≤l4.length)
  (a1:f4=false→takeP 4 l3=some (v,l4)∧l4.length+4=l3.length) (b1:f4=true→takeP 4 l3=none)
  (a2:f5=false→f4=false∧textP 4 l4=some (x.data.toList,l5)∧l5.length+4+x.size=l4.length) (b2:f4=false→f5=true→textP 4 l4=none):Fl l l2 l5 f2 f5 cnt (i+1) (E++[⟨(v:Int),x⟩]):=by
 obtain⟨y1,y2,y3⟩:=hf.yes rfl;obtain⟨k,hk⟩:∃k,cnt - i=k+1:=⟨cnt - i - 1,by omega⟩
 have hk2:cnt - (i+1)=k:=by omega
 rw [hk] at y3;refine⟨by omega,by omega,by simp [hf.len],by have:=hf.sh;omega,fun h5=>?_,fun _ h5=>?_⟩
 ·obtain⟨h4,t2,z2⟩:=a2 h5
  obtain⟨t1,z1⟩:=a1 h4;refine⟨y1,by omega,?_⟩;rw [y3,hk2,Ju2 t1 t2]
 ·rw [y3]
  rcases f4 with _ |_
  ·obtain⟨t1,_⟩:=a1 rfl
   rw [Jri t1 (b2 rfl h5)];rfl
  ·rw [Jrn (b1 rfl)]
   rfl
theorem ifile (W:World) (B g h gn:Nat) (K:Int) (l:List UInt8) (c:Int) (f:Bool) (w:World) (hs:Fst W w B g h gn K 0 [] none 0 l c f) (hgn:W.heap.size≤gn) (hll:l.length≤4194304):
  Calls prog 146 #[.pointer (some ⟨g,0,none⟩),.pointer (some ⟨gn,0,none⟩)] w fun e w'=>(∃u,e= .returned u)∧Filed W B g h gn K l c f w':=by
 have HT:=hid (itake 4 B g h l c f w hs.rr (by decide) (by decide));have HS:=hid hs;obtain⟨i0,hi,hz0,hy1,hy2⟩:=info_parts infoExtent;have HI:=hid (And.intro hi (And.intro hz0 (And.intro hy1 hy2)));clear hs hi hz0 hy1 hy2;go_enter func146,ntmps146
 go_wp2_with fail
 refine HT.out.mono ?_;rintro e w1 ht;obtain⟨S,l1,f1,rfl,hS,hr1,hk1,q1,a1,b1⟩:=ht.one (by decide);have hs1:=HS.out.read hr1 hk1;obtain⟨b0,c1,c2,c3,c4,c5,c6⟩:=hs1.box.cells;have f4:w1.frozen? ⟨gn,4,none⟩=false:=Jab hs1.box 4;have hs2:=hs1.size (S':=(S:Int)) hgn;obtain⟨W2,hW2⟩:=words.nm (w1.setCell ⟨gn,4,none⟩ (.int .i64 (S:Int)));rw [←hW2] at hs2;have HT2:=hid (itake 4 B g h l1 c f1 W2 hs2.rr (by decide) (by decide));have HS2:=hid hs2;have HW2:=hid hW2;have HA1:=hid (And.intro a1 b1);clear ht hr1 hk1 hs1 hs2 hW2 a1 b1 HT HS;go_upto_region 1 with fail
 rw [←HW2.out];go_wp2_with fail
 refine HT2.out.mono ?_;rintro e w3 ht;clear b0 c1 c2 c3 c4 c5 c6 f4 HW2 HT2;obtain⟨cnt,l2,f2,rfl,hcnt,hr3,hk3,q2,a2,b2⟩:=ht.one (by decide);have hs3:=HS2.out.read hr3 hk3;have HS3:=hid hs3;have HA2:=hid (And.intro a2 b2);clear ht hr3 hk3 hs3 a2 b2 HS2;go_upto_region 3 with fail
 go_wp2_with fail
 go_loopw [5] (fun v5 wr=>∃(i:Nat) (E:List Ex) (Ae:Option Addr) (ce:Nat) (l3:List UInt8) (f3:Bool),v5= .int .i64 i∧Hid (Fst W wr B g h gn K (S:Int) E Ae ce l3 c f3)∧Fl l l2 l3 f2 f3 cnt i E) (fun v5 _=>cnt - (intOf v5).toNat)
 case atStart=>
  refine⟨0,[],none,0,l2,f2,rfl,HS3,Nat.zero_le _,by omega,rfl,by omega,fun h2=>⟨h2,by omega,?_⟩,fun h1 h2=>?_⟩
  ·rw [Nat.sub_zero]
   rcases exP cnt l2 with _ |⟨E',l4⟩<;>rfl
  ·rw [h1] at h2
   cases h2
 case round=>
  obtain⟨i,E,Ae,ce,l3,f3,rfl,HS,hfl⟩:=hrel;obtain⟨d0,d1,d2,_,_⟩:=HS.out.rr.cells;have i0':(0:Int)≤(i:Int):=by omega
  have hle:=hfl.le;have hfew:=hfl.few;have hlen:=hfl.len;have hend:i≥cnt∨f3=true→Filed W B g h gn K l c f wr:=by
   intro hor;refine⟨S,E,Ae,ce,l3,f3,hS,by omega,hfl.sh,HS.out,fun h3=>?_,fun h0 h3=>?_⟩
   ·obtain⟨h2,_,hx⟩:=hfl.yes h3
    obtain⟨h1,t2,_⟩:=HA2.out.1 h2;obtain⟨h0,t1,_⟩:=HA1.out.1 h1;have hi:cnt - i=0:=by
     rcases hor with hor |hor
     ·omega
     ·rw [h3] at hor
      cases hor
    rw [hi] at hx;refine⟨h0,?_⟩;unfold fileP;rw [t1];show (match takeP 4 l1 with |none=>none |some (k,l2)=>_)=_;rw [t2];show (match exP cnt l2 with |none=>none |some (E,l3)=>_)=_;rw [hx];simp [exP,exJ]
   ·unfold fileP
    rcases f1 with _ |_
    ·obtain⟨_,t1,_⟩:=HA1.out.1 rfl
     rw [t1];show (match takeP 4 l1 with |none=>none |some (k,l2)=>_)=_;rcases f2 with _ |_
     ·obtain⟨_,t2,_⟩:=HA2.out.1 rfl
      rw [t2];show (match exP cnt l2 with |none=>none |some (E,l3)=>_)=_;rw [hfl.no rfl h3]
     ·rw [HA2.out.2 rfl rfl]
    ·rw [HA1.out.2 h0 rfl]
  by_cases hlt:i<cnt
  ·have i1:(i:Int)<(cnt:Int):=by omega
   rcases f3 with _ |_
   ·have HT4:=hid (itake 4 B g h l3 c false wr HS.out.rr (by decide) (by decide))
    have HFl:=hid hfl;clear hend hfl;go_wp2_with fail
    refine HT4.out.mono ?_;rintro e w4 ht;clear d0 d1 d2 HT4;obtain⟨v,l4,f4,rfl,hv,hr4,hk4,q4,a4,b4⟩:=ht.one (by decide);have hs4:=HS.out.read hr4 hk4;have hsh:=HFl.out.sh;have HT5:=hid (Jkx 4 B g h l4 c f4 w4 hs4.rr (by decide) (by decide));have HS4:=hid hs4;have HA4:=hid (And.intro (fun h=>(a4 h).2) (b4 rfl));clear ht hr4 hk4 hs4 a4 b4 HS;go_wp2_with fail
    refine HT5.out.mono ?_;rintro e w5 ht;obtain⟨x,l5,f5,rfl,hx,hr5,hk5,q5,a5,b5⟩:=ht.one (by decide) (by omega);have hs5:=HS4.out.read hr5 hk5;have HFl2:=hid (HFl.out.more hlt hll q4 q5 HA4.out.1 HA4.out.2 a5 b5);have c5:w5.cell? ⟨gn,5,none⟩=some (.slice Ae E.length ce):=hs5.box.cells.2.2.2.2.2.1;have g5:w5.frozen? ⟨gn,5,none⟩=false:=Jab hs5.box 5;have HS5:=hid hs5;clear ht hr5 hk5 hs5 a5 b5 HS4 HT5 HFl HA4;obtain⟨hi,hz0,hz1,hz2⟩:=HI.out;obtain⟨W6,hW6⟩:=words.nm (w5.alloc (.cells #[.int .i64 (v:Int),.string x] 131));have hro:W6.ownsRow W.heap.size 131 2 (.slice Ae i ce) i (exCells E):=by
     rw [hW6,←hlen];exact Jbs HS5.out.row ((Below.refl _ _).alloc (Nat.le_refl _) _)
    have HO:=hid hro;have hnews:Hid (∀(i:Nat) (u:Value),[Value.int .i64 (v:Int),.string x][i]?=some u→W6.cell? ((⟨w5.heap.size,0,none⟩:Addr).add i)=some u):=hid fun i u hu=>by
     rw [add_place,Nat.zero_add,hW6,Jaa (heap_alloc_new w5 _) i,←Array.getElem?_toList];exact hu
    have hone:Hid (∀u∈[Value.int .i64 (v:Int),.string x],u.oneCell'=true):=hid (by simp [Value.oneCell']);have HW6:=hid hW6;have hn2:(exCells E).length=2*i:=by rw [Jbx];omega
    have hz6:W6.heap.size=w5.heap.size+1:=by rw [hW6];simp
    have hz5:=HS5.out.kp.size;clear hro hW6;go_wp2_with (at_builtin;rw [←HW6.out];go_loud (refine wpList_append_own _ rfl (.tmp 35) (.tmp 39) 44 rfl W.heap.size 131 i0 _ 2 24 underlying44 hi hz0 hz1 hz2 rfl (by omega) (.slice Ae i ce) i (exCells E) rfl HO.out ⟨w5.heap.size,0,none⟩ 1 1 [Value.int .i64 (v:Int),.string x] rfl rfl hnews.out hone.out (by simp only [maxLen];omega) (by omega) (by omega) ?_;intro v7 w7 hown7 hgrow7 hnil7);obtain⟨A7,c7,rfl,_,_⟩:=own_facts hown7;have hg7:(w5.alloc (.cells #[.int .i64 (v:Int),.string x] 131)).grownBy w7 (Value.slice Ae E.length ce).ownBlock:=(by rw [←HW6.out,hlen];exact hgrow7);have d5:w7.frozen? ⟨gn,5,none⟩=false:=Jab (HS5.out.stay hg7) 5;have d6:w7.cell? ⟨gn,5,none⟩=some (.slice Ae E.length ce):=Jaa (HS5.out.stay hg7) 5)
    have hown8:w7.ownsRow W.heap.size 131 2 (.slice A7 (E.length+1) c7) (E.length+1) (exCells E++[.int .i64 (v:Int),.string x]):=by rw [hlen];exact hown7
    have HP:=hid (HS5.out.put (x:=⟨(v:Int),x⟩) hgn ⟨by show -9223372036854775808≤(v:Int);omega,by show (v:Int)≤9223372036854775807;omega,by show x.size≤140737488355328;omega⟩ hown8 hg7);rw [hlen] at HP;clear hown8 hg7 hown7 hgrow7 HS5 d6;go_wp2_with fail
    go_roundw
    case rel=>exact⟨i+1,_,A7,c7,l5,f5,by go_num,HP,HFl2⟩
    case measure=>simp [intOf];omega
   ·have he:=hend (.inr rfl)
    clear hend hfl;go_wp2_with fail
    go_end0
    exact⟨⟨_,rfl⟩,he⟩
  ·have i1:(cnt:Int)≤(i:Int):=by omega
   have he:=hend (.inl (by omega));clear hend hfl;go_wp2_with fail
   go_end0
   exact⟨⟨_,rfl⟩,he⟩

def Qz (w:World) (lo b:Nat):Prop:=lo≤b∧∃cs t,w.heap[b]?=some (.cells cs t (0,0))∧¬Rz t
theorem Qz.lt {w:World} {lo b:Nat} (h:Qz w lo b):b<w.heap.size:=by
 obtain⟨_,cs,t,h,_⟩:=h;exact lt_of_some h
theorem Qz.same {w w':World} {lo b:Nat} (h:Qz w lo b) (he:w'.heap[b]?=w.heap[b]?):Qz w' lo b:=by
 obtain⟨h1,cs,t,h,hn⟩:=h;exact⟨h1,cs,t,he.trans h,hn⟩
theorem Qz.kept {B:Nat} {w w':World} {lo b:Nat} (h:Qz w lo b) (hk:words.Kept Rz B w w'):w'.heap[b]?=w.heap[b]?∧Qz w' lo b:=by
 have h':=h;obtain⟨h1,cs,t,h,hn⟩:=h';have e:=hk.blk h hn;exact⟨e.trans h.symm,h1,cs,t,e,hn⟩
theorem Qz.less {w:World} {lo lo' b:Nat} (h:Qz w lo b) (hl:lo'≤lo):Qz w lo' b:=⟨Nat.le_trans hl h.1,h.2⟩
def Qd (w:World) (lo gn:Nat) (vn vi:Value) (b:Nat):Prop:=Qz w lo b∧b≠gn∧vn.ownBlock≠some b∧vi.ownBlock≠some b
structure Dm (W w:World) (B g h gn:Nat) (n0:Nd) (q0:Raw) (vn vi:Value) (N:List ByteArray) (I J:List Nd) (rs:Nat→Raw) (l:List UInt8) (c:Int) (f:Bool):Prop where
 rr:Rr w B g h l c f
 kp:words.Kept Rz B W w
 new:W.heap.size≤gn
 box:Box w gn n0 q0
 nrow:w.ownsRow W.heap.size 9 1 vn N.length (N.map Value.string)
 irow:w.ownsRow W.heap.size 46 7 vi I.length (rowCells I rs)
 sep:vi.ownBlock≠some gn
 small:∀(i:Nat) (x:ByteArray),N[i]?=some x→x.size≤140737488355328
 items:∀(i:Nat) (x:Nd),J[i]?=some x→NdIn w (Qd w W.heap.size gn vn vi) x (rs i)
section
variable {W w w1:World} {B g h gn:Nat} {n0:Nd} {q0:Raw} {vn vi vn' vi':Value} {N:List ByteArray} {I J:List Nd} {rs:Nat→Raw} {l:List UInt8} {c:Int} {f:Bool}
theorem Dm.later (hd:Dm W w B g h gn n0 q0 vn vi N I J rs l c f) (hb:Below w.heap.size w w1):Dm W w1 B g h gn n0 q0 vn vi N I J rs l c f:=by
 refine⟨hd.rr.frame fun k hk=>hb.block k hk,hd.kp.trans (words.Kept.of_below hb Rz B),hd.new,hd.box.below hb,Jbs hd.nrow hb,Jbs hd.irow hb,hd.sep,hd.small,fun i x hx=>?_⟩;exact (hd.items i x hx).keep fun b hq=>⟨hb.block b hq.1.lt,hq.1.same (hb.block b hq.1.lt),hq.2⟩
theorem Dm.alloc (hd:Dm W w B g h gn n0 q0 vn vi N I J rs l c f) (o:Obj):Dm W (w.alloc o) B g h gn n0 q0 vn vi N I J rs l c f:=
 hd.later ((Below.refl _ _).alloc (Nat.le_refl _) o)
theorem Jhh {size n:Nat} {e:TypeId} {v:Value} {xs:List Value} (hk:words.Kept Rz B W w) (ho:w.ownsRow W.heap.size e size v n xs) (hg:w.grownBy w1 v.ownBlock):words.Kept Rz B W w1:=by
 refine⟨hg.os.trans hk.os,hg.tape.trans hk.tape,hg.output.trans hk.output,Nat.le_trans hk.size hg.size,fun k hkl hc=>?_⟩;refine (hg.block k (Nat.lt_of_lt_of_le hkl hk.size) fun e=>?_).trans (hk.block k hkl hc);have:=(ho.lt k e.symm).1;omega
theorem Jdz {base size n:Nat} {e:TypeId} {v:Value} {xs:List Value} {row:Option Nat} (ho:w.ownsRow base e size v n xs) (hg:w.grownBy w1 row) (hne:∀b,v.ownBlock=some b→some b≠row):w1.ownsRow base e size v n xs:=by
 refine⟨ho.1,?_⟩;rcases ho.2 with h0 |⟨g,cap,cur,rfl,h2,h3,h4⟩
 ·exact .inl h0
 ·exact .inr ⟨g,cap,cur,rfl,h2,(hg.block g (lt_of_some h3) (hne g (by simp [Value.ownBlock]))).trans h3,h4⟩
theorem Dm.apart (hd:Dm W w B g h gn n0 q0 vn vi N I J rs l c f) {b:Nat} (h1:vn.ownBlock=some b):vi.ownBlock≠some b:=by
 rcases hd.nrow.2 with⟨rfl,_⟩ |⟨g1,cap,cur,rfl,_,h3,_⟩
 ·simp [Value.ownBlock] at h1
 ·have e:g1=b:=by simpa [Value.ownBlock] using h1
  subst e;exact Jap hd.irow h3 (by decide)
theorem Dm.names (hd:Dm W w B g h gn n0 q0 vn vi N I J rs l c f) {x:ByteArray} (hx:x.size≤140737488355328) (hown:w1.ownsRow W.heap.size 9 1 vn' (N.length+1) (N.map Value.string++[.string x])) (hg:w.grownBy w1 vn.ownBlock)
  (hat:vn.ownBlock=vn'.ownBlock∨vn'.ownBlock=some w.heap.size):Dm W w1 B g h gn n0 q0 vn' vi (N++[x]) I J rs l c f:=by
 have hnb:vn.ownBlock≠some gn:=Jap hd.nrow hd.box (by decide);refine⟨hd.rr.grown hg hd.nrow (by decide),Jhh hd.kp hd.nrow hg,hd.new,hd.box.grown hg fun e=>hnb e.symm,?_,Jdz hd.irow hg fun b hb e=>hd.apart e.symm hb,hd.sep,fun i y hy=>?_,fun i y hy=>?_⟩
 ·rw [List.length_append,List.map_append]
  exact hown
 ·rcases Nat.lt_or_ge i N.length with hi |hi
  ·rw [List.getElem?_append_left hi] at hy
   exact hd.small i y hy
  ·rw [List.getElem?_append_right hi] at hy
   rw [←List.mem_singleton.1 (List.mem_of_getElem? hy)] at hx;exact hx
 ·refine (hd.items i y hy).keep fun b hq=>?_
  have e:=hg.block b hq.1.lt fun e=>hq.2.2.1 e.symm;refine⟨e,hq.1.same e,hq.2.1,fun e2=>?_,hq.2.2.2⟩;rcases hat with hat |hat
  ·exact hq.2.2.1 (hat.trans e2)
  ·rw [hat] at e2
   injection e2 with e2;have:=hq.1.lt;omega
theorem Dm.entry (hd:Dm W w B g h gn n0 q0 vn vi N I J rs l c f) {y:Nd} (hown:w1.ownsRow W.heap.size 46 7 vi' (I.length+1) (rowCells (I++[y]) rs)) (hg:w.grownBy w1 vi.ownBlock)
  (hat:vi.ownBlock=vi'.ownBlock∨vi'.ownBlock=some w.heap.size):Dm W w1 B g h gn n0 q0 vn vi' N (I++[y]) J rs l c f:=by
 refine⟨hd.rr.grown hg hd.irow (by decide),Jhh hd.kp hd.irow hg,hd.new,hd.box.grown hg fun e=>hd.sep e.symm,Jdz hd.nrow hg fun b hb e=>hd.apart hb e.symm,?_,?_,hd.small,fun i x hx=>?_⟩
 ·rw [List.length_append]
  exact hown
 ·rcases hat with hat |hat
  ·rw [←hat]
   exact hd.sep
  ·rw [hat]
   intro e;injection e with e;have:=hd.box.lt;omega
 ·refine (hd.items i x hx).keep fun b hq=>?_
  have e:=hg.block b hq.1.lt fun e=>hq.2.2.2 e.symm;refine⟨e,hq.1.same e,hq.2.1,hq.2.2.1,fun e2=>?_⟩;rcases hat with hat |hat
  ·exact hq.2.2.2 (hat.trans e2)
  ·rw [hat] at e2
   injection e2 with e2;have:=hq.1.lt;omega
theorem Dm.set (hd:Dm W w B g h gn n0 q0 vn vi N I J rs l c f) (j:Nat) (u:Value) {n1:Nd} {q1:Raw} (hc:(rawCells n0 q0).setIfInBounds j u=rawCells n1 q1):Dm W (w.setCell ⟨gn,j,none⟩ u) B g h gn n1 q1 vn vi N I J rs l c f:=by
 have hnb:vn.ownBlock≠some gn:=Jap hd.nrow hd.box (by decide);refine⟨hd.rr.setBox hd.box u,Ja4 hd.kp hd.new u,hd.new,?_,Jad hd.nrow hnb u,Jad hd.irow hd.sep u,hd.sep,hd.small,fun i x hx=>?_⟩
 ·have h5:=heap_setCell_same w gn j _ _ u hd.box
  unfold Box;rw [h5,hc]
 ·refine (hd.items i x hx).keep fun b hq=>?_
  have e:=Below.heap_setCell w ⟨gn,j,none⟩ u b hq.2.1;exact⟨e,hq.1.same e,hq.2⟩
end

theorem Jyj (n:Int) (s:Nat) (h1:1≤s) (h2:s≤4) (h3:0≤n) (h4:n<2 ^ (8*s)):(num (be n s):Int)=n:=by
 have b:∀e,((byteAt n e).toNat:Int)=n / 2 ^ (8*e) % 256:=fun e=>by
  have a1:0≤n / 2 ^ (8*e) % 256:=Int.emod_nonneg _ (by omega);have a2:n / 2 ^ (8*e) % 256<256:=Int.emod_lt_of_pos _ (by omega);rw [byteAt,UInt8.toNat_ofNat'];omega
 have b0:=b 0;have b1:=b 1;have b2:=b 2;have b3:=b 3;obtain rfl |rfl |rfl |rfl:s=1∨s=2∨s=3∨s=4:=by omega
 all_goals
  simp only [be,num,List.range,List.range.loop,List.map_cons,List.map_nil,List.foldl_cons,List.foldl_nil];simp at b0 b1 b2 b3 h4 ⊢;omega
theorem Jby {a:UInt8} {n:Int} {e:Nat} (h:n / 2 ^ (8*e) % 256=(a.toNat:Int)):byteAt n e=a:=by
 unfold byteAt;rw [h];simp
theorem Jyb (k:Nat) (l:List UInt8) (hl:l.length=k) (h1:1≤k) (h4:k≤4):be (num l:Int) k=l:=by
 obtain rfl |rfl |rfl |rfl:k=1∨k=2∨k=3∨k=4:=by omega
 ·obtain⟨a,rfl⟩:=List.length_eq_one_iff.1 hl
  have ha:=a.toNat_lt;simp only [be,num,List.range,List.range.loop,List.map_cons,List.map_nil,List.foldl_cons,List.foldl_nil];rw [Jby (a:=a) (by simp;omega)]
 ·match l,hl with
  |[a,b],_=>
   have ha:=a.toNat_lt;have hb:=b.toNat_lt;simp only [be,num,List.range,List.range.loop,List.map_cons,List.map_nil,List.foldl_cons,List.foldl_nil];rw [Jby (a:=a) (by simp;omega),Jby (a:=b) (by simp;omega)]
 ·match l,hl with
  |[a,b,c],_=>
   have ha:=a.toNat_lt;have hb:=b.toNat_lt;have hc:=c.toNat_lt;simp only [be,num,List.range,List.range.loop,List.map_cons,List.map_nil,List.foldl_cons,List.foldl_nil];rw [Jby (a:=a) (by simp;omega),Jby (a:=b) (by simp;omega),Jby (a:=c) (by simp;omega)]
 ·match l,hl with
  |[a,b,c,d],_=>
   have ha:=a.toNat_lt;have hb:=b.toNat_lt;have hc:=c.toNat_lt;have hd:=d.toNat_lt;simp only [be,num,List.range,List.range.loop,List.map_cons,List.map_nil,List.foldl_cons,List.foldl_nil];rw [Jby (a:=a) (by simp;omega),Jby (a:=b) (by simp;omega),Jby (a:=c) (by simp;omega),Jby (a:=d) (by simp;omega)]

theorem Jav {n:Nat} {k:Nat} {r:List UInt8} (h1:1≤k) (h2:k≤4) (h4:n<256 ^ k):takeP k (be (n:Int) k++r)=some (n,r):=by
 have e:(num (be (n:Int) k):Int)=(n:Int):=Jyj n k h1 h2 (by omega) (by
   have:(256:Nat) ^ k=2 ^ (8*k):=by rw [Nat.pow_mul]
   rw [this] at h4;exact_mod_cast h4)
 unfold takeP;rw [if_pos (by rw [List.length_append,Jag];omega),List.take_left' (Jag _ _),List.drop_left' (Jag _ _)];rw [Int.ofNat_inj.1 e]
theorem Jft {x:List UInt8} {k:Nat} {r:List UInt8} (h1:1≤k) (h2:k≤4) (h4:x.length<256 ^ k):textP k (be (x.length:Int) k++(x++r))=some (x,r):=by
 unfold textP;rw [Jav h1 h2 h4];show (if x.length≤(x++r).length then some ((x++r).take x.length,(x++r).drop x.length) else none)=_;rw [if_pos (by rw [List.length_append];omega),List.take_left,List.drop_left]
theorem Jsz:∀(E:List Ex) (r:List UInt8),(∀x∈E,0≤x.O∧x.O<4294967296∧x.D.size<4294967296)→exP E.length (exB E++r)=some (E,r)
 |[],r,_=>by simp [exP,exB]
 |x::E,r,h=>by
  obtain⟨h1,h2,h3⟩:=h x (List.mem_cons_self ..);have e:exB (x::E)++r=be ((x.O.toNat:Nat):Int) 4++(be ((x.D.data.toList.length:Nat):Int) 4++(x.D.data.toList++(exB E++r))):=by
   rw [Int.toNat_of_nonneg h1,ext.size_list];simp [exB]
  rw [e,List.length_cons,Jh5 (Jav (by decide) (by decide) (by omega)) (Jft (by decide) (by decide) (by rw [ext.size_list];omega)),Jsz E r fun y hy=>h y (List.mem_cons_of_mem _ hy)];show some ((⟨((x.O.toNat:Nat):Int),x.D⟩:Ex)::E,r)=_;rw [Int.toNat_of_nonneg h1]
theorem Jdj:∀{E:List Ex} {size e:Int},rightFrom size e E=true→0≤e→size≤1048576→e≤size→(∀x∈E,0≤x.O∧x.O<4294967296∧x.D.size<4294967296)∧(E.length:Int)≤size - e
 |[],_,_,_,_,_,_=>⟨(fun _ h=>nomatch h),by show ((0:Nat):Int)≤_;omega⟩
 |x::E,size,e,h,h0,hs,he=>by
  rw [rightFrom,Bool.and_eq_true] at h;have hf:=h.1;unfold fitOne at hf;obtain⟨a,b,c⟩:=of_decide_eq_true hf;obtain⟨hi,hl⟩:=Jdj h.2 (by omega) hs (by omega);refine⟨fun y hy=>?_,by rw [List.length_cons];omega⟩;rcases List.mem_cons.1 hy with rfl |hy
  ·omega
  ·exact hi y hy
theorem Jpa {l l1 l2:List UInt8} {s k:Nat} (h1:takeP 4 l=some (s,l1)) (h2:takeP 4 l1=some (k,l2)):fileP l=match exP k l2 with |none=>none |some (E,l3)=>some (s,E,l3):=by
 unfold fileP;rw [h1];show (match takeP 4 l1 with |none=>none |some (k,l2)=>match exP k l2 with |none=>none |some (E,l3)=>some (s,E,l3))=_;rw [h2]
theorem Jmr {S:Int} {E:List Ex} {r:List UInt8} (h:rightB S E=true):fileP (be S 4++(be (E.length:Int) 4++exB E)++r)=some (S.toNat,E,r):=by
 unfold rightB at h;rw [Bool.and_eq_true] at h;obtain⟨h1,h2⟩:=of_decide_eq_true h.1;obtain⟨he,hl⟩:=Jdj h.2 (by omega) h2 h1;have e:be S 4++(be (E.length:Int) 4++exB E)++r=be ((S.toNat:Nat):Int) 4++(be (E.length:Int) 4++(exB E++r)):=by
  rw [Int.toNat_of_nonneg h1];simp only [List.append_assoc]
 rw [e,Jpa (Jav (by decide) (by decide) (by omega)) (Jav (by decide) (by decide) (by omega)),Jsz E r he]
abbrev PN:=Nat→List UInt8→Option (Nd×List UInt8×Nat)
theorem Jhz {P:PN} {k c c2:Nat} {l l1 l2 s:List UInt8} {x:Nd} (h1:textP 1 l=some (s,l1)) (h2:P c l1=some (x,l2,c2)):
  itP P (k+1) c l=match itP P k c2 l2 with |none=>none |some (N,I,l3,c3)=>some (mkB s::N,x::I,l3,c3):=by
 rw [itP,h1];show (match P c l1 with |none=>none |some (x,l2,c2)=>_)=_;rw [h2]
theorem Jvs {P:PN} {u:Nat}:∀(N:List ByteArray) (I:List Nd) (c:Nat) (r:List UInt8),N.length=I.length→(∀s∈N,s.size≤64)→(∀x∈I,∀c r,c+u*count x≤4096→P c (nb x++r)=some (x,r,c+u*count x))→c+u*countL I≤4096→itP P I.length c (itB N I++r)=some (N,I,r,c+u*countL I)
 |[],[],c,r,_,_,_,_=>by simp [Jlf,itP,Jaj]
 |[],_::_,_,_,h,_,_,_=>by simp at h
 |_::_,[],_,_,h,_,_,_=>by simp at h
 |s::N,x::I,c,r,h,hs,hP,hc=>by
  have hs1:=hs s (List.mem_cons_self ..);rw [Jaf,Nat.mul_add] at hc;have e:itB (s::N) (x::I)++r=be ((s.data.toList.length:Nat):Int) 1++(s.data.toList++(nb x++(itB N I++r))):=by
   rw [Jfn,ext.size_list];simp only [List.append_assoc]
  rw [e,List.length_cons,Jhz (Jft (by decide) (by decide) (by rw [ext.size_list];omega)) (hP x (List.mem_cons_self ..) c _ (by omega)),
    Jvs N I _ r (by simpa using h) (fun t ht=>hs t (List.mem_cons_of_mem _ ht)) (fun y hy=>hP y (List.mem_cons_of_mem _ hy)) (by omega)]
  show some (mkB s.data.toList::N,x::I,r,c+u*count x+u*countL I)=_;rw [Jaf,Nat.mul_add,←Nat.add_assoc];rfl
theorem Jq9 {P:PN} {c o k:Nat} {l l1 l2:List UInt8} (h1:takeP 1 l=some (o,l1)) (ho:¬1<o) (h2:takeP 2 l1=some (k,l2)):dirP P c l=match itP P k c l2 with |none=>none |some (N,I,l3,c3)=>some (decide (o=1),N,I,l3,c3):=by
 unfold dirP;rw [h1];show (if 1<o then none else match takeP 2 l1 with |none=>none |some (k,l2)=>match itP P k c l2 with |none=>none |some (N,I,l3,c3)=>some (decide (o=1),N,I,l3,c3))=_;rw [if_neg ho,h2]
theorem Jpk {P:PN} {u c:Nat} {O:Bool} {N:List ByteArray} {I:List Nd} {r:List UInt8} (h:N.length=I.length) (hs:∀s∈N,s.size≤64) (hl:I.length<65536) (hP:∀x∈I,∀c r,c+u*count x≤4096→P c (nb x++r)=some (x,r,c+u*count x)) (hc:c+u*countL I≤4096):
  dirP P c (be (if O then 1 else 0) 1++(be (I.length:Int) 2++itB N I)++r)=some (O,N,I,r,c+u*countL I):=by
 have e:be (if O then 1 else 0) 1++(be (I.length:Int) 2++itB N I)++r=be (((if O then 1 else 0:Nat)):Int) 1++(be (I.length:Int) 2++(itB N I++r)):=by
  cases O<;>simp
 rw [e,Jq9 (Jav (by decide) (by decide) (by cases O<;>simp)) (by cases O<;>simp) (Jav (by decide) (by decide) (by omega)),Jvs N I c r h hs hP hc];cases O<;>rfl
theorem Jgr (n:Nd):1≤count n:=by rw [Jar];omega
theorem Jde:∀(L:List Nd),L.length≤countL L
 |[]=>by simp
 |x::L=>by
  rw [Jaf,List.length_cons];have:=Jde L;have:=Jgr x;omega
theorem Jbl (f c:Nat) (l:List UInt8):nodeP (f+1) c l=if 4096<c+1 then none else match takeP 1 l with
  |none=>none
  |some (k,l1)=>
   if k=1 then (match fileP l1 with |none=>none |some (s,E,l2)=>some (.mk 1 false [] [] (s:Int) E ⟨#[]⟩,l2,c+1))
   else if k=2 then (match dirP (nodeP f) (c+1) l1 with |none=>none |some (o,N,I,l2,c2)=>some (.mk 2 o N I 0 [] ⟨#[]⟩,l2,c2))
   else if k=3 then (match textP 2 l1 with |none=>none |some (t,l2)=>some (.mk 3 false [] [] 0 [] (mkB t),l2,c+1))
   else some (.mk (k:Int) false [] [] 0 [] ⟨#[]⟩,l1,c+1):=by
 rw [nodeP]
theorem Jip {s:ByteArray} (h:s.size=0):s=⟨#[]⟩:=by
 have:s.data.size=0:=h;cases s;simp_all
theorem Jl3 {n:Nd} (h:noneB n=true):n.O=false∧n.N=[]∧n.I=[]:=by
 obtain⟨a,b⟩:=Jfk h;refine⟨?_,List.eq_nil_of_length_eq_zero a,List.eq_nil_of_length_eq_zero b⟩;rcases hO:n.O with _ |_
 ·rfl
 ·rw [Jk6 hO] at h
  cases h
theorem Jiy {n:Nd} (h:emptyB n=true):n.S=0∧n.E=[]:=by
 unfold emptyB at h;simp only [Bool.and_eq_true,beq_iff_eq] at h;exact⟨h.1,List.eq_nil_of_length_eq_zero h.2⟩
theorem Jfv {n:Nd} (h:oneB n=true):(∃S E,n= .mk 1 false [] [] S E ⟨#[]⟩∧rightB S E=true)∨(∃O N I,n= .mk 2 O N I 0 [] ⟨#[]⟩∧N.length=I.length∧∀s∈N,s.size≤64)∨
  (∃T,n= .mk 3 false [] [] 0 [] T∧T.size≤256)∨n= .mk 4 false [] [] 0 [] ⟨#[]⟩:=by
 obtain⟨K,O,N,I,S,E,T⟩:=n;rcases Jy7 h with hk |hk |hk |hk
 ·obtain rfl:K=1:=hk
  rw [Jjd rfl] at h;simp only [Bool.and_eq_true,beq_iff_eq] at h;obtain⟨rfl,rfl,rfl⟩:O=false∧N=[]∧I=[]:=Jl3 h.1.1;obtain rfl:T=⟨#[]⟩:=Jip h.1.2;exact .inl ⟨S,E,rfl,h.2⟩
 ·obtain rfl:K=2:=hk
  have h2:=Jy6 h rfl;rw [Jhb rfl] at h;simp only [Bool.and_eq_true,beq_iff_eq] at h;obtain⟨rfl,rfl⟩:S=0∧E=[]:=Jiy h.1.1;obtain rfl:T=⟨#[]⟩:=Jip h.1.2;exact .inr (.inl ⟨O,N,I,rfl,h2⟩)
 ·obtain rfl:K=3:=hk
  have h3:=Jy5 h rfl;rw [Jhk rfl] at h;simp only [Bool.and_eq_true] at h;obtain⟨rfl,rfl,rfl⟩:O=false∧N=[]∧I=[]:=Jl3 h.1.1;obtain⟨rfl,rfl⟩:S=0∧E=[]:=Jiy h.1.2;exact .inr (.inr (.inl ⟨T,rfl,h3⟩))
 ·obtain rfl:K=4:=hk
  rw [Jkk rfl] at h;simp only [Bool.and_eq_true,beq_iff_eq] at h;obtain⟨rfl,rfl,rfl⟩:O=false∧N=[]∧I=[]:=Jl3 h.1.1;obtain⟨rfl,rfl⟩:S=0∧E=[]:=Jiy h.1.2;obtain rfl:T=⟨#[]⟩:=Jip h.2;exact .inr (.inr (.inr rfl))
theorem Jhx:∀{L:List Nd} {x:Nd},allL L=true→x∈L→allB x=true
 |y::L,x,h,hx=>by
  rw [Jbh,Bool.and_eq_true] at h;rcases List.mem_cons.1 hx with rfl |hx
  ·exact h.1
  ·exact Jhx h.2 hx
theorem Jjn {L:List Nd} {x:Nd} (h:x∈L):depth x+1≤depthL L:=by
 obtain⟨i,hi⟩:=List.mem_iff_getElem?.1 h;exact Jbv hi
theorem Jnw:∀(f:Nat) (n:Nd) (c:Nat) (r:List UInt8),allB n=true→depth n<f→c+count n≤4096→nodeP f c (nb n++r)=some (n,r,c+count n)
 |0,_,_,_,_,h,_=>by omega
 |f+1,n,c,r,ha,hd,hc=>by
  have hone:=Jia ha;have h1:=Jgr n;rw [Jbl,if_neg (by omega),Jd4,List.append_assoc];rcases Jfv hone with⟨S,E,rfl,hr⟩ |⟨O,N,I,rfl,hl,hs⟩ |⟨T,rfl,ht⟩ |rfl
  ·rw [show be (Nd.mk 1 false [] [] S E ⟨#[]⟩).K 1=be ((1:Nat):Int) 1 from rfl,Jav (by decide) (by decide) (by decide),Jjh rfl]
   show (match fileP (be S 4++(be (E.length:Int) 4++exB E)++r) with |none=>none |some (s,E,l2)=>_)=_;rw [Jmr hr];show some (Nd.mk 1 false [] [] ((S.toNat:Nat):Int) E ⟨#[]⟩,r,c+1)=_;unfold rightB at hr;rw [Bool.and_eq_true] at hr;rw [Int.toNat_of_nonneg (of_decide_eq_true hr.1).1,Jar];rfl
  ·rw [show be (Nd.mk 2 O N I 0 [] ⟨#[]⟩).K 1=be ((2:Nat):Int) 1 from rfl,Jav (by decide) (by decide) (by decide),Jff rfl]
   show (match dirP (nodeP f) (c+1) (be (if O then 1 else 0) 1++(be (I.length:Int) 2++itB N I)++r) with |none=>none |some (o,N,I,l2,c2)=>_)=_;rw [Jcc] at ha;rw [Jar] at hc;rw [Jah] at hd;have ha':allL I=true:=(Bool.and_eq_true _ _▸ha).1;have hc':c+(1+countL I)≤4096:=hc;have hd':depthL I<f+1:=hd;have hll:=Jde I;rw [Jpk (u:=1) hl hs (by omega) (fun x hx c' r' hc'=>by
     rw [Nat.one_mul] at hc' ⊢;exact Jnw f x c' r' (Jhx ha' hx) (by have:=Jjn hx;omega) hc') (by omega)]
   show some (Nd.mk 2 O N I 0 [] ⟨#[]⟩,r,c+1+1*countL I)=_;rw [Jar,Nat.one_mul,Nat.add_assoc];rfl
  ·rw [show be (Nd.mk 3 false [] [] 0 [] T).K 1=be ((3:Nat):Int) 1 from rfl,Jav (by decide) (by decide) (by decide),Jkp rfl]
   show (match textP 2 (be (T.size:Int) 2++T.data.toList++r) with |none=>none |some (t,l2)=>_)=_;rw [List.append_assoc,←ext.size_list T,Jft (by decide) (by decide) (by rw [ext.size_list];omega),Jar];rfl
  ·rw [show be (Nd.mk 4 false [] [] 0 [] ⟨#[]⟩).K 1=be ((4:Nat):Int) 1 from rfl,Jav (by decide) (by decide) (by decide),Jjs (by decide) (by decide) (by decide),Jar]
   rfl

theorem Jbj {k v:Nat} {l l':List UInt8} (h:takeP k l=some (v,l')) (h1:1≤k) (h4:k≤4):l=be (v:Int) k++l':=by
 unfold takeP at h;split at h
 next hl=>
  injection h with h;injection h with h2 h3;rw [←h2,←h3,Jyb k (l.take k) (by rw [List.length_take];omega) h1 h4,List.take_append_drop]
 next=>cases h
theorem Jd6 {k:Nat} {l x l':List UInt8} (h:textP k l=some (x,l')) (h1:1≤k) (h4:k≤4):l=be (x.length:Int) k++(x++l'):=by
 unfold textP at h;rcases ht:takeP k l with _ |⟨v,l1⟩
 ·rw [ht] at h;cases h
 ·rw [ht] at h
  change (if v≤l1.length then some (l1.take v,l1.drop v) else none)=_ at h;split at h
  next hl=>
   injection h with h;injection h with h2 h3;have hx:x.length=v:=by rw [←h2,List.length_take];omega
   rw [Jbj ht h1 h4,hx,←h2,←h3,List.take_append_drop]
  next=>cases h
theorem Jpn:∀{k:Nat} {l:List UInt8} {E:List Ex} {l':List UInt8},exP k l=some (E,l')→l=exB E++l'∧E.length=k
 |0,l,E,l',h=>by
  rw [exP] at h;injection h with h;injection h with h2 h3;subst h2 h3;exact⟨rfl,rfl⟩
 |k+1,l,E,l',h=>by
  rcases h1:takeP 4 l with _ |⟨o,l1⟩
  ·rw [Jrn h1] at h;cases h
  rcases h2:textP 4 l1 with _ |⟨x,l2⟩
  ·rw [Jri h1 h2] at h;cases h
  rw [Jh5 h1 h2] at h;rcases h3:exP k l2 with _ |⟨E',l3⟩
  ·rw [h3] at h;cases h
  rw [h3] at h;injection h with h;injection h with h4 h5;subst h4 h5;obtain⟨i1,i2⟩:=Jpn h3;refine⟨?_,by rw [List.length_cons,i2]⟩;rw [Jbj h1 (by decide) (by decide),Jd6 h2 (by decide) (by decide),i1];show _=(be (o:Int) 4++(be ((mkB x).size:Int) 4++(mkB x).data.toList)++exB E')++l3;rw [mkB_size,show (mkB x).data.toList=x from rfl];simp only [List.append_assoc]
theorem Jje {l:List UInt8} {s:Nat} {E:List Ex} {l':List UInt8} (h:fileP l=some (s,E,l')):l=be (s:Int) 4++(be (E.length:Int) 4++exB E)++l':=by
 unfold fileP at h;rcases h1:takeP 4 l with _ |⟨o,l1⟩
 ·rw [h1] at h;cases h
 rw [h1] at h;change (match takeP 4 l1 with |none=>none |some (k,l2)=>match exP k l2 with |none=>none |some (E,l3)=>some (o,E,l3))=_ at h;rcases h2:takeP 4 l1 with _ |⟨k,l2⟩
 ·rw [h2] at h;cases h
 rw [h2] at h;change (match exP k l2 with |none=>none |some (E,l3)=>some (o,E,l3))=_ at h;rcases h3:exP k l2 with _ |⟨E',l3⟩
 ·rw [h3] at h;cases h
 rw [h3] at h;injection h with h;injection h with h4 h5;injection h5 with h5 h6;subst h4 h5 h6;obtain⟨i1,i2⟩:=Jpn h3;rw [Jbj h1 (by decide) (by decide),Jbj h2 (by decide) (by decide),i1,i2];simp only [List.append_assoc]
def PInv (P:PN):Prop:=∀c l x l' c',P c l=some (x,l',c')→l=nb x++l'∧5*depth x≤(nb x).length
theorem Jre {P:PN} (hP:PInv P):∀{k c:Nat} {l:List UInt8} {N:List ByteArray} {I:List Nd} {l':List UInt8} {c':Nat},itP P k c l=some (N,I,l',c')→l=itB N I++l'∧N.length=k∧I.length=k∧5*depthL I≤(itB N I).length+4
 |0,c,l,N,I,l',c',h=>by
  rw [itP] at h;injection h with h;injection h with h2 h3;injection h3 with h3 h4;injection h4 with h4 h5;subst h2 h3 h4 h5;exact⟨by rw [Jlf];rfl,rfl,rfl,by rw [Jaq];omega⟩
 |k+1,c,l,N,I,l',c',h=>by
  rcases h1:textP 1 l with _ |⟨s,l1⟩
  ·rw [itP,h1] at h;cases h
  rcases h2:P c l1 with _ |⟨x,l2,c2⟩
  ·rw [itP,h1] at h
   change (match P c l1 with |none=>none |some (x,l2,c2)=>_)=_ at h;rw [h2] at h;cases h
  rw [Jhz h1 h2] at h;rcases h3:itP P k c2 l2 with _ |⟨N',I',l3,c3⟩
  ·rw [h3] at h;cases h
  rw [h3] at h;injection h with h;injection h with h4 h5;injection h5 with h5 h6;injection h6 with h6 h7;subst h4 h5 h6 h7;obtain⟨i1,i2,i3,i4⟩:=Jre hP h3;obtain⟨j1,j2⟩:=hP _ _ _ _ _ h2;refine⟨?_,by rw [List.length_cons,i2],by rw [List.length_cons,i3],?_⟩
  ·rw [Jd6 h1 (by decide) (by decide),j1,i1,Jfn,mkB_size,show (mkB s).data.toList=s from rfl]
   simp only [List.append_assoc]
  ·rw [Jfn,Jal]
   simp only [List.length_append,Jag];omega
theorem Jnb {P:PN} (hP:PInv P) {c:Nat} {l:List UInt8} {O:Bool} {N:List ByteArray} {I:List Nd} {l':List UInt8} {c':Nat} (h:dirP P c l=some (O,N,I,l',c')):
  l=be (if O then 1 else 0) 1++(be (I.length:Int) 2++itB N I)++l'∧5*depthL I≤(itB N I).length+4:=by
 unfold dirP at h;rcases h1:takeP 1 l with _ |⟨o,l1⟩
 ·rw [h1] at h;cases h
 rw [h1] at h;change (if 1<o then none else match takeP 2 l1 with |none=>none |some (k,l2)=>match itP P k c l2 with |none=>none |some (N,I,l3,c3)=>some (decide (o=1),N,I,l3,c3))=_ at h;split at h
 ·cases h
 next ho=>
 rcases h2:takeP 2 l1 with _ |⟨k,l2⟩
 ·rw [h2] at h;cases h
 rw [h2] at h;change (match itP P k c l2 with |none=>none |some (N,I,l3,c3)=>some (decide (o=1),N,I,l3,c3))=_ at h;rcases h3:itP P k c l2 with _ |⟨N',I',l3,c3⟩
 ·rw [h3] at h;cases h
 rw [h3] at h;injection h with h;injection h with h4 h5;injection h5 with h5 h6;injection h6 with h6 h7;injection h7 with h7 h8;subst h4 h5 h6 h7 h8;obtain⟨i1,i2,i3,i4⟩:=Jre hP h3;refine⟨?_,i4⟩;have e:((if decide (o=1)=true then 1 else 0:Int))=(o:Int):=by
  obtain rfl |rfl:o=0∨o=1:=by omega
  ·rfl
  ·rfl
 rw [e,Jbj h1 (by decide) (by decide),Jbj h2 (by decide) (by decide),i1,i3];simp only [List.append_assoc]
theorem Jgd:∀(f:Nat),PInv (nodeP f)
 |0=>fun c l x l' c' h=>by rw [nodeP] at h;cases h
 |f+1=>fun c l x l' c' h=>by
  rw [Jbl] at h;split at h
  ·cases h
  rcases h1:takeP 1 l with _ |⟨k,l1⟩
  ·rw [h1] at h;cases h
  rw [h1] at h;have e1:=Jbj h1 (by decide) (by decide);change (if k=1 then (match fileP l1 with |none=>none |some (s,E,l2)=>some (Nd.mk 1 false [] [] (s:Int) E ⟨#[]⟩,l2,c+1)) else if k=2 then (match dirP (nodeP f) (c+1) l1 with |none=>none |some (o,N,I,l2,c2)=>some (Nd.mk 2 o N I 0 [] ⟨#[]⟩,l2,c2)) else if k=3 then (match textP 2 l1 with |none=>none |some (t,l2)=>some (Nd.mk 3 false [] [] 0 [] (mkB t),l2,c+1)) else some (Nd.mk (k:Int) false [] [] 0 [] ⟨#[]⟩,l1,c+1))=_ at h;split at h
  next hk=>
   subst hk;rcases h2:fileP l1 with _ |⟨s,E,l2⟩
   ·rw [h2] at h;cases h
   rw [h2] at h;injection h with h;injection h with h4 h5;injection h5 with h5 h6;subst h4 h5 h6;refine⟨?_,by rw [Jah];show 5*depthL []≤_;rw [Jaq];omega⟩;rw [e1,Jje h2,Jd4,Jjh rfl];simp only [List.append_assoc];rfl
  split at h
  next _ hk=>
   subst hk;rcases h2:dirP (nodeP f) (c+1) l1 with _ |⟨O,N,I,l2,c2⟩
   ·rw [h2] at h;cases h
   rw [h2] at h;injection h with h;injection h with h4 h5;injection h5 with h5 h6;subst h4 h5 h6;obtain⟨i1,i2⟩:=Jnb (Jgd f) h2;refine⟨?_,?_⟩
   ·rw [e1,i1,Jd4,Jff rfl]
    simp only [List.append_assoc];rfl
   ·rw [Jah,Jd4,Jff rfl]
    show 5*depthL I≤(be 2 1++(be (if O then 1 else 0) 1++(be (I.length:Int) 2++itB N I))).length;simp only [List.length_append,Jag];omega
  split at h
  next _ _ hk=>
   subst hk;rcases h2:textP 2 l1 with _ |⟨t,l2⟩
   ·rw [h2] at h;cases h
   rw [h2] at h;injection h with h;injection h with h4 h5;injection h5 with h5 h6;subst h4 h5 h6;refine⟨?_,by rw [Jah];show 5*depthL []≤_;rw [Jaq];omega⟩;rw [e1,Jd6 h2 (by decide) (by decide),Jd4,Jkp rfl];show _=be 3 1++(be ((mkB t).size:Int) 2++t)++l2;rw [mkB_size];simp only [List.append_assoc];rfl
  next hk1 hk2 hk3=>
   injection h with h;injection h with h4 h5;injection h5 with h5 h6;subst h4 h5 h6;refine⟨?_,by rw [Jah];show 5*depthL []≤_;rw [Jaq];omega⟩;have a1:((k:Int))≠1:=by omega
   have a2:((k:Int))≠2:=by omega
   have a3:((k:Int))≠3:=by omega
   rw [e1,Jd4,Jjs (n:= .mk (k:Int) false [] [] 0 [] ⟨#[]⟩) a1 a2 a3];simp only [List.append_assoc];rfl

def getP:Nat→List UInt8→Option (Nd×List UInt8)
 |0,_=>none
 |f+1,l=>match takeP 1 l with
  |none=>none
  |some (k,l1)=>
   if k=1 then (match fileP l1 with |none=>none |some (s,E,l2)=>some (.mk 1 false [] [] (s:Int) E ⟨#[]⟩,l2))
   else if k=2 then (match dirP (fun c l=>(getP f l).map fun p=>(p.1,p.2,c)) 0 l1 with |none=>none |some (o,N,I,l2,_)=>some (.mk 2 o N I 0 [] ⟨#[]⟩,l2))
   else if k=3 then (match textP 2 l1 with |none=>none |some (t,l2)=>some (.mk 3 false [] [] 0 [] (mkB t),l2))
   else if k=4 then some (.mk 4 false [] [] 0 [] ⟨#[]⟩,l1) else none
def getC (f:Nat):PN:=fun c l=>(getP f l).map fun p=>(p.1,p.2,c)
theorem Jcj (f:Nat) (l:List UInt8):getP (f+1) l=match takeP 1 l with
  |none=>none
  |some (k,l1)=>
   if k=1 then (match fileP l1 with |none=>none |some (s,E,l2)=>some (.mk 1 false [] [] (s:Int) E ⟨#[]⟩,l2))
   else if k=2 then (match dirP (getC f) 0 l1 with |none=>none |some (o,N,I,l2,_)=>some (.mk 2 o N I 0 [] ⟨#[]⟩,l2))
   else if k=3 then (match textP 2 l1 with |none=>none |some (t,l2)=>some (.mk 3 false [] [] 0 [] (mkB t),l2))
   else if k=4 then some (.mk 4 false [] [] 0 [] ⟨#[]⟩,l1) else none:=by rw [getP];rfl
theorem Jrs:∀(f:Nat) (n:Nd) (r:List UInt8),allB n=true→depth n<f→n.I.length<65536∧countL n.I≤4096→getP f (nb n++r)=some (n,r)
 |0,_,_,_,h,_=>by omega
 |f+1,n,r,ha,hd,hc=>by
  have hone:=Jia ha;rw [Jcj,Jd4,List.append_assoc];rcases Jfv hone with⟨S,E,rfl,hr⟩ |⟨O,N,I,rfl,hl,hs⟩ |⟨T,rfl,ht⟩ |rfl
  ·rw [show be (Nd.mk 1 false [] [] S E ⟨#[]⟩).K 1=be ((1:Nat):Int) 1 from rfl,Jav (by decide) (by decide) (by decide),Jjh rfl]
   show (match fileP (be S 4++(be (E.length:Int) 4++exB E)++r) with |none=>none |some (s,E,l2)=>_)=_;rw [Jmr hr];show some (Nd.mk 1 false [] [] ((S.toNat:Nat):Int) E ⟨#[]⟩,r)=_;unfold rightB at hr;rw [Bool.and_eq_true] at hr;rw [Int.toNat_of_nonneg (of_decide_eq_true hr.1).1]
  ·rw [show be (Nd.mk 2 O N I 0 [] ⟨#[]⟩).K 1=be ((2:Nat):Int) 1 from rfl,Jav (by decide) (by decide) (by decide),Jff rfl]
   show (match dirP (getC f) 0 (be (if O then 1 else 0) 1++(be (I.length:Int) 2++itB N I)++r) with |none=>none |some (o,N,I,l2,_)=>_)=_;rw [Jcc] at ha;rw [Jah] at hd;have ha':allL I=true:=(Bool.and_eq_true _ _▸ha).1;have hd':depthL I<f+1:=hd;have hc1:I.length<65536:=hc.1;have hc2:countL I≤4096:=hc.2;have sub:∀x∈I,count x≤countL I:=by
    intro x hx;clear hs hl ha ha' hd hd' hc hc1 hc2 hone
    induction I with
    |nil=>cases hx
    |cons y L ihL=>
     rw [Jaf];rcases List.mem_cons.1 hx with rfl |hx
     ·omega
     ·have:=ihL hx
      omega
   rw [Jpk (u:=0) hl hs hc1 (fun x hx c' r' _=>by
     have h1:=sub x hx;rw [Jar] at h1;have h2:=Jde x.I;show (getP f (nb x++r')).map _=_;rw [Jrs f x r' (Jhx ha' hx) (by have:=Jjn hx;omega) ⟨by omega,by omega⟩,Nat.zero_mul];rfl) (by omega)]
  ·rw [show be (Nd.mk 3 false [] [] 0 [] T).K 1=be ((3:Nat):Int) 1 from rfl,Jav (by decide) (by decide) (by decide),Jkp rfl]
   show (match textP 2 (be (T.size:Int) 2++T.data.toList++r) with |none=>none |some (t,l2)=>_)=_;rw [List.append_assoc,←ext.size_list T,Jft (by decide) (by decide) (by rw [ext.size_list];omega)];rfl
  ·rw [show be (Nd.mk 4 false [] [] 0 [] ⟨#[]⟩).K 1=be ((4:Nat):Int) 1 from rfl,Jav (by decide) (by decide) (by decide),Jjs (by decide) (by decide) (by decide)]
   rfl
theorem Jix:∀(f:Nat) (l:List UInt8) (n:Nd) (l':List UInt8),getP f l=some (n,l')→l=nb n++l'∧5*depth n≤(nb n).length
 |0,_,_,_,h=>by rw [getP] at h;cases h
 |f+1,l,n,l',h=>by
  rw [Jcj] at h;rcases h1:takeP 1 l with _ |⟨k,l1⟩
  ·rw [h1] at h;cases h
  rw [h1] at h;have e1:=Jbj h1 (by decide) (by decide);change (if k=1 then (match fileP l1 with |none=>none |some (s,E,l2)=>some (Nd.mk 1 false [] [] (s:Int) E ⟨#[]⟩,l2)) else if k=2 then (match dirP (getC f) 0 l1 with |none=>none |some (o,N,I,l2,_)=>some (Nd.mk 2 o N I 0 [] ⟨#[]⟩,l2)) else if k=3 then (match textP 2 l1 with |none=>none |some (t,l2)=>some (Nd.mk 3 false [] [] 0 [] (mkB t),l2)) else if k=4 then some (Nd.mk 4 false [] [] 0 [] ⟨#[]⟩,l1) else none)=_ at h;split at h
  next hk=>
   subst hk;rcases h2:fileP l1 with _ |⟨s,E,l2⟩
   ·rw [h2] at h;cases h
   rw [h2] at h;injection h with h;injection h with h4 h5;subst h4 h5;refine⟨?_,by rw [Jah];show 5*depthL []≤_;rw [Jaq];omega⟩;rw [e1,Jje h2,Jd4,Jjh rfl];simp only [List.append_assoc];rfl
  split at h
  next _ hk=>
   subst hk;rcases h2:dirP (getC f) 0 l1 with _ |⟨O,N,I,l2,c2⟩
   ·rw [h2] at h;cases h
   rw [h2] at h;injection h with h;injection h with h4 h5;subst h4 h5;have hP:PInv (getC f):=fun c l x l' c' hx=>by
    unfold getC at hx;rcases hg:getP f l with _ |⟨y,l2⟩
    ·rw [hg] at hx;cases hx
    rw [hg] at hx;injection hx with hx;injection hx with hx1 hx2;injection hx2 with hx2 hx3;change y=x at hx1;change l2=l' at hx2;subst hx1 hx2;exact Jix f l y l2 hg
   obtain⟨i1,i2⟩:=Jnb hP h2;refine⟨?_,?_⟩
   ·rw [e1,i1,Jd4,Jff rfl]
    simp only [List.append_assoc];rfl
   ·rw [Jah,Jd4,Jff rfl]
    show 5*depthL I≤(be 2 1++(be (if O then 1 else 0) 1++(be (I.length:Int) 2++itB N I))).length;simp only [List.length_append,Jag];omega
  split at h
  next _ _ hk=>
   subst hk;rcases h2:textP 2 l1 with _ |⟨t,l2⟩
   ·rw [h2] at h;cases h
   rw [h2] at h;injection h with h;injection h with h4 h5;subst h4 h5;refine⟨?_,by rw [Jah];show 5*depthL []≤_;rw [Jaq];omega⟩;rw [e1,Jd6 h2 (by decide) (by decide),Jd4,Jkp rfl];show _=be 3 1++(be ((mkB t).size:Int) 2++t)++l2;rw [mkB_size];simp only [List.append_assoc];rfl
  split at h
  next hk=>
   subst hk;injection h with h;injection h with h4 h5;subst h4 h5;refine⟨?_,by rw [Jah];show 5*depthL []≤_;rw [Jaq];omega⟩;rw [e1,Jd4,Jjs (by decide) (by decide) (by decide)];simp only [List.append_assoc];rfl
  next=>cases h

def nbL:List Nd→Nat
 |[]=>0
 |x::L=>(nb x).length+nbL L
theorem Jlu:∀(N:List ByteArray) (I:List Nd),N.length=I.length→(itB N I).length≥nbL I+N.length∧((∀s∈N,s.size≤64)→(itB N I).length≤65*N.length+nbL I)
 |[],[],_=>by rw [Jlf];exact⟨by simp [nbL],fun _=>by simp [nbL]⟩
 |[],_::_,h=>by simp at h
 |_::_,[],h=>by simp at h
 |s::N,x::I,h=>by
  obtain⟨a,b⟩:=Jlu N I (by simpa using h);rw [Jfn];simp only [List.length_append,Jag,List.length_cons,nbL,ext.size_list];refine⟨by omega,fun hs=>?_⟩;have h1:=hs s (List.mem_cons_self ..);have h2:=b fun t ht=>hs t (List.mem_cons_of_mem _ ht);omega
theorem Jq7:∀E:List Ex,(exB E).length=8*E.length+total E
 |[]=>rfl
 |x::E=>by
  show ((be x.O 4++(be (x.D.size:Int) 4++x.D.data.toList))++exB E).length=_;simp only [List.length_append,Jag,Jq7 E,List.length_cons,total,ext.size_list];omega
theorem Jx2 {n:Nd} (h:oneB n=true):(nb n).length≤100*(1+n.N.length+n.E.length+total n.E+n.T.size)+nbL n.I:=by
 rw [Jd4];rcases Jfv h with⟨S,E,rfl,hr⟩ |⟨O,N,I,rfl,hl,hs⟩ |⟨T,rfl,ht⟩ |rfl
 ·rw [Jjh rfl]
  show (be 1 1++(be S 4++(be (E.length:Int) 4++exB E))).length≤100*(1+0+E.length+total E+0)+0;simp only [List.length_append,Jag,Jq7];omega
 ·rw [Jff rfl]
  show (be 2 1++(be (if O then 1 else 0) 1++(be (I.length:Int) 2++itB N I))).length≤100*(1+N.length+0+0+0)+nbL I;have:=(Jlu N I hl).2 hs;simp only [List.length_append,Jag];omega
 ·rw [Jkp rfl]
  show (be 3 1++(be (T.size:Int) 2++T.data.toList)).length≤100*(1+0+0+0+T.size)+0;simp only [List.length_append,Jag,ext.size_list];omega
 ·rw [Jjs (by decide) (by decide) (by decide)]
  show (be 4 1++[]).length≤100*(1+0+0+0+0)+0;rw [List.append_nil,Jag];omega
theorem Jvh {n:Nd} {l:Int} (h1:oneB n=true) (h2:Tame n) (h3:0≤l) (h4:l≤400):spend l n=l - (1+(n.N.length:Int)+(n.E.length:Int)) - (total n.E:Int) - (n.T.size:Int):=by
 obtain⟨t1,t2⟩:=Jju h1;obtain⟨n1,n2,_⟩:=h2;unfold spend;rw [Jcn (n:=l - (1+(n.N.length:Int)+(n.E.length:Int))) ⟨by omega,by omega⟩,Je1 _ _ (by omega) (by omega),Jcn ⟨by omega,by omega⟩]
mutual
theorem Jnj:∀(n:Nd) (d l:Int),allB n=true→Tame n→0≤l→l≤400→(smallS n d l).1=true→((nb n).length:Int)+100*(smallS n d l).2≤100*l
 | .mk K O N I S E T,d,l,ha,ht,h0,h1,h=>by
  rw [Jcc,Bool.and_eq_true] at ha;rw [Jcs] at h ⊢;split at h
  ·cases h
  ·rename_i hc
   rw [if_neg hc];have hs:=Jvh ha.2 ht h0 h1;have hle:=Jm7 ha.2 ht h0 h1 (by omega);have:=Jkn I (d - 1) _ ha.1 (fun x hx=>ht.item x hx) (by omega) (by omega) h;have ho:=Jx2 ha.2;have ho':(nb (.mk K O N I S E T)).length≤100*(1+N.length+E.length+total E+T.size)+nbL I:=ho;have hs':spend l (.mk K O N I S E T)=l - (1+(N.length:Int)+(E.length:Int)) - (total E:Int) - (T.size:Int):=hs;show ((nb (.mk K O N I S E T)).length:Int)+100*(smallL I (d - 1) (spend l (.mk K O N I S E T))).2≤100*l;omega
theorem Jkn:∀(L:List Nd) (d l:Int),allL L=true→(∀x∈L,Tame x)→0≤l→l≤400→(smallL L d l).1=true→(nbL L:Int)+100*(smallL L d l).2≤100*l
 |[],d,l,_,_,h0,_,_=>by rw [Jda];simp [nbL]
 |x::L,d,l,ha,ht,h0,h1,h=>by
  rw [Jbh,Bool.and_eq_true] at ha;rw [Jbr] at h ⊢;split at h
  ·rename_i hx
   rw [if_pos hx];have c:=Jcf x d l ha.1 (ht x (List.mem_cons_self ..)) h0 h1 hx;have a:=Jnj x d l ha.1 (ht x (List.mem_cons_self ..)) h0 h1 hx;have b:=Jkn L d _ ha.2 (fun y hy=>ht y (List.mem_cons_of_mem _ hy)) c.1 (by omega) h;simp only [nbL];omega
  ·cases h
end
theorem Jq5 {n:Nd} (h:smallB n=true) (ha:allB n=true) (ht:Tame n):(nb n).length≤40000:=by
 have a:=Jnj n 30 400 ha ht (by omega) (by omega) h;have c:=Jcf n 30 400 ha ht (by omega) (by omega) h;omega
mutual
theorem Jef:∀(n:Nd),allB n=true→count n≤(nb n).length
 | .mk K O N I S E T,ha=>by
  rw [Jcc,Bool.and_eq_true] at ha;have hL:countL I≤nbL I:=Jkl I ha.1;have e:=Jar (.mk K O N I S E T);have e':count (.mk K O N I S E T)=1+countL I:=e;rw [e',Jd4];rcases Jfv ha.2 with⟨S',E',hn,hr⟩ |⟨O',N',I',hn,hl,hs⟩ |⟨T',hn,ht⟩ |hn
  ·injection hn with _ _ _ hI
   subst hI;simp only [List.length_append,Jag,nbL] at hL ⊢;omega
  ·injection hn with hK hO hN hI hS hE hT
   subst hK hO hN hI hS hE hT;have:=(Jlu N I hl).1;rw [Jff rfl];show 1+countL I≤(be 2 1++(be (if O then 1 else 0) 1++(be (I.length:Int) 2++itB N I))).length;simp only [List.length_append,Jag];omega
  ·injection hn with _ _ _ hI
   subst hI;simp only [List.length_append,Jag,nbL] at hL ⊢;omega
  ·injection hn with _ _ _ hI
   subst hI;simp only [List.length_append,Jag,nbL] at hL ⊢;omega
theorem Jkl:∀(L:List Nd),allL L=true→countL L≤nbL L
 |[],_=>by rw [Jaj];exact Nat.zero_le _
 |x::L,ha=>by
  rw [Jbh,Bool.and_eq_true] at ha;rw [Jaf];have:=Jef x ha.1;have:=Jkl L ha.2;simp only [nbL];omega
end
theorem Jbt {n:Nd} (h:treeB n=true):n.K=2∧allB n=true∧depth n≤15:=by
 unfold treeB at h;rw [Bool.and_eq_true,beq_iff_eq] at h;have:=Jdc n 0 0 h.2;exact⟨h.1,this.1,by omega⟩
theorem Jhd {n:Nd} (hc:allB n=true→count n≤4096):treeB n=refB n:=by
 rcases ht:treeB n with _ |_
 ·rcases hr:refB n with _ |_
  ·rfl
  ·have hr':=hr
   unfold refB at hr';simp only [Bool.and_eq_true,beq_iff_eq,decide_eq_true_iff] at hr';have:=Jgt n 0 0 hr'.1.1.2 (by have:=hr'.2;omega) (Int.le_refl _) (by have:=hc hr'.1.1.2;omega);unfold treeB at ht;rw [this,hr'.1.1.1] at ht;simp at ht
 ·obtain⟨h1,h2,h3⟩:=Jbt ht
  have:=hc h2;unfold refB;rw [h1,h2,decide_eq_true h3,Jcn ⟨by omega,by omega⟩,decide_eq_true (by omega)];rfl
def decL (l:List UInt8):Option Nd:=match nodeP 4097 0 l with |some (n,[],_)=>if treeB n=true then some n else none |_=>none
def getL (l:List UInt8):Option Nd:=match getP 16 l with |some (n,[])=>if refB n=true then some n else none |_=>none
theorem Jmf {l:List UInt8} {n:Nd} (h:decL l=some n):l=nb n∧treeB n=true:=by
 unfold decL at h;split at h
 next m c hm=>
  split at h
  next ht=>
   injection h with h;subst h;have:=(Jgd 4097 _ _ _ _ _ hm).1;rw [List.append_nil] at this;exact⟨this,ht⟩
  next=>cases h
 next=>cases h
theorem Jk7 {n:Nd} (h:treeB n=true) (hc:count n≤4096):decL (nb n)=some n:=by
 obtain⟨_,h2,h3⟩:=Jbt h;have:=Jnw 4097 n 0 [] h2 (by omega) (by omega);rw [List.append_nil] at this;unfold decL;rw [this];show (if treeB n=true then some n else none)=_;rw [if_pos h]
theorem Jts {l:List UInt8} {n:Nd} (h:getL l=some n):l=nb n∧refB n=true:=by
 unfold getL at h;split at h
 next m hm=>
  split at h
  next ht=>
   injection h with h;subst h;have:=(Jix 16 _ _ _ hm).1;rw [List.append_nil] at this;exact⟨this,ht⟩
  next=>cases h
 next=>cases h
theorem Jw7 {n:Nd} (h:refB n=true) (hc:count n≤4096):getL (nb n)=some n:=by
 have hr:=h;unfold refB at hr;simp only [Bool.and_eq_true,beq_iff_eq,decide_eq_true_iff] at hr;have hcI:=hc;rw [Jar] at hcI;have hl:=Jde n.I;have:=Jrs 16 n [] hr.1.1.2 (by have:=hr.2;omega) ⟨by omega,by omega⟩;rw [List.append_nil] at this;unfold getL;rw [this];show (if refB n=true then some n else none)=_;rw [if_pos h]
theorem Jsp {l:List UInt8} (hl:l.length≤4096):decL l=getL l:=by
 rcases hd:decL l with _ |n
 ·rcases hg:getL l with _ |n
  ·rfl
  ·obtain⟨h1,h2⟩:=Jts hg
   have h3:treeB n=true:=by
    rw [Jhd fun ha=>by have:=Jef n ha;rw [←h1] at this;omega];exact h2
   have hc:=Jef n (Jbt h3).2.1;rw [←h1] at hc;have:=Jk7 h3 (by omega);rw [←h1,hd] at this;cases this
 ·obtain⟨h1,h2⟩:=Jmf hd
  have hc:=Jef n (Jbt h2).2.1;rw [←h1] at hc;have h3:refB n=true:=by
   rw [←Jhd fun ha=>by omega];exact h2
  have:=Jw7 h3 (by omega);rw [←h1] at this;rw [this]
end Go.Proofs.YtekekhgjobahaaaGreatDoor.ima
