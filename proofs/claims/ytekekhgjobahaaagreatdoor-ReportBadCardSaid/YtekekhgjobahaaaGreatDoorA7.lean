import Derived.Test.YtekekhgjobahaaaGreatDoorA5
import Derived.Test.YtekekhgjobahaaaGreatDoorShelf
set_option maxHeartbeats 6400000
set_option maxRecDepth 100000
open Go.Proofs.Tryz hiding parts
namespace Go.Proofs.YtekekhgjobahaaaGreatDoor.name
open Go.RowKit words

theorem Jq2 (s:ByteArray) (c:Int) (u:UInt8) (w:World) (hc:c.toNat.toUInt8=u) (h:s.data.toList.contains u=false):
  Calls prog 109 #[.string s,.int .u8 c] w fun e w'=>e= .returned (.int .i64 (-1))∧w=w':=
 (Tryz.strings_IndexByte s c w).mono fun e w' ⟨he,hw⟩=>by
  refine⟨?_,hw.symm⟩;rw [Lib.contains_iff_indexByte] at h;have h1:=of_decide_eq_false h;have h2:=Lib.indexByte_ge s.data.toList u;rw [he,hc,show Lib.indexByte s.data.toList u= -1 by omega]
theorem Jsd (s:ByteArray) (c:Int) (u:UInt8) (w:World) (hc:c.toNat.toUInt8=u) (h:s.data.toList.contains u=true):
  Calls prog 109 #[.string s,.int .u8 c] w fun e w'=>∃i:Nat,e= .returned (.int .i64 (i:Int))∧w=w':=
 (Tryz.strings_IndexByte s c w).mono fun e w' ⟨he,hw⟩=>by
  rw [Lib.contains_iff_indexByte] at h;have h1:=of_decide_eq_true h;refine⟨(Lib.indexByte s.data.toList u).toNat,?_,hw.symm⟩;rw [he,hc,Int.toNat_of_nonneg h1]
theorem Jea (s:ByteArray) (w:World) (hs:s.size≤9223372036854775807):Calls prog 211 #[.string s] w fun e w'=>e= .returned (.bool (right s.data.toList))∧w=w':=by
 have hl:s.data.toList.length=s.size:=size_list s;by_cases e0:s.size<1
 ·have hr:right s.data.toList=false:=Jaw (.inl (List.eq_nil_of_length_eq_zero (by omega)))
  rw [hr];clear hl;go_enter func211,ntmps211
  go_wp2
  go_ret
  exact⟨rfl,rfl⟩
 ·have d0:decide ((s.size:Int)<1)=false:=by simp;omega
  by_cases e3:64<s.size
  ·have hr:right s.data.toList=false:=Jaw (.inr (.inr (.inr (by omega))))
   rw [hr];clear hl;go_enter func211,ntmps211
   go_wp2
   go_ret
   exact⟨rfl,rfl⟩
  ·have d3:decide (64<(s.size:Int))=false:=by simp;omega
   by_cases e1:s.toList=[46]
   ·have hr:right s.data.toList=false:=Jaw (.inr (.inl (by rw [←to_list];exact e1)))
    have f1:(s.toList==[46])=true:=by rw [e1];rfl
    rw [hr];clear e1 hl;go_enter func211,ntmps211
    go_wp2
    go_ret
    exact⟨rfl,rfl⟩
   ·have f1:(s.toList==[46])=false:=by simpa using e1
    by_cases e2:s.toList=[46,46]
    ·have hr:right s.data.toList=false:=Jaw (.inr (.inr (.inl (by rw [←to_list];exact e2))))
     have f2:(s.toList==[46,46])=true:=by rw [e2];rfl
     rw [hr];clear e2 hl;go_enter func211,ntmps211
     go_wp2
     go_ret
     exact⟨rfl,rfl⟩
    ·have f2:(s.toList==[46,46])=false:=by simpa using e2
     have hr:right s.data.toList=clean s.data.toList:=Jmo (by omega) (by omega) (by rw [←to_list];exact e1) (by rw [←to_list];exact e2);rw [hr];rcases h47:s.data.toList.contains 47 with _ |_
     ·rcases h0:s.data.toList.contains 0 with _ |_
      ·have hc:clean s.data.toList=true:=by unfold clean;rw [h47,h0];rfl
       have H47:=Lib.hid h47;have H0:=Lib.hid h0;rw [hc];clear hc hr h47 h0 e1 e2 hl;go_enter func211,ntmps211
       go_wp2_with fail
       refine (Jq2 _ _ 47 _ (by decide) H47.out).mono ?_;rintro e w' ⟨rfl,rfl⟩;go_wp2_with fail
       refine (Jq2 _ _ 0 _ (by decide) H0.out).mono ?_;rintro e w' ⟨rfl,rfl⟩;go_wp2_with fail
       go_ret
       exact⟨rfl,rfl⟩
      ·have hc:clean s.data.toList=false:=by unfold clean;rw [h0];simp
       have H47:=Lib.hid h47;have H0:=Lib.hid h0;rw [hc];clear hc hr h47 h0 e1 e2 hl;go_enter func211,ntmps211
       go_wp2_with fail
       refine (Jq2 _ _ 47 _ (by decide) H47.out).mono ?_;rintro e w' ⟨rfl,rfl⟩;go_wp2_with fail
       refine (Jsd _ _ 0 _ (by decide) H0.out).mono ?_;rintro e w' ⟨i,rfl,rfl⟩;go_wp2_with fail
       go_ret
       exact⟨rfl,rfl⟩
     ·have hc:clean s.data.toList=false:=by unfold clean;rw [h47];rfl
      have H47:=Lib.hid h47;rw [hc];clear hc hr h47 e1 e2 hl;go_enter func211,ntmps211
      go_wp2_with fail
      refine (Jsd _ _ 47 _ (by decide) H47.out).mono ?_;rintro e w' ⟨i,rfl,rfl⟩;go_wp2_with fail
      go_ret
      exact⟨rfl,rfl⟩
theorem Jco (s:ByteArray) (w:World) (hs:s.size≤9223372036854775807) (h:right s.data.toList=true):Calls prog 211 #[.string s] w fun e w'=>e= .returned (.bool true)∧w=w':=
 (Jea s w hs).mono fun _ _ ⟨he,hw⟩=>⟨by rw [he,h],hw⟩
theorem Jmz (s:ByteArray) (w:World) (hs:s.size≤9223372036854775807) (h:right s.data.toList=false):Calls prog 211 #[.string s] w fun e w'=>e= .returned (.bool false)∧w=w':=
 (Jea s w hs).mono fun _ _ ⟨he,hw⟩=>⟨by rw [he,h],hw⟩

theorem info9:(Tryz.prog.info? 9).map (fun i=>(i.zero,i.size,i.bytes))=some (some (.string ByteArray.empty),1,16):=by kernel_rfl

theorem Jdl (s:ByteArray) (m:Int) (w:World) (hs:s.size<4294967281) (hm:w.cell? ⟨1,0,none⟩=some (.int .i64 m)):
  Calls prog 234 #[.string s,.string ⟨#[47]⟩] w fun e w'=>∃P:List ByteArray,e= .returned (.slice (some ⟨w.heap.size,0,none⟩) P.length P.length)∧P.map (fun x=>x.data.toList)=cut s.data.toList∧
   P.length≤s.size+1∧w.alloc (.cells (P.map Value.string).toArray 9)=w':=
 (Tryz.strings_Split s ⟨#[47]⟩ m w hs hm (by decide)).mono fun e w' ⟨he,hw⟩=>by
  have hl:(Lib.splitB ⟨#[47]⟩ 0 (Lib.countB s ⟨#[47]⟩) s).length=Lib.countB s ⟨#[47]⟩+1:=Lib.splitB_all ⟨#[47]⟩ (by decide) 0 _ s rfl;have hc:=Lib.countB_le ⟨#[47]⟩ (by decide) s.size s (Nat.le_refl _);exact⟨_,by rw [hl];exact he,Jn1 s,by rw [hl];omega,hw.symm⟩

def keepB (p:ByteArray):Bool:= !idle p.data.toList
theorem Jhw {p:ByteArray} (h:p.toList=[]∨p.toList=[46]):idle p.data.toList=true:=by
 rw [to_list] at h;rcases h with h |h<;>rw [h]<;>rfl
theorem Jnp {p:ByteArray} (h1:p.toList≠[]) (h2:p.toList≠[46]):idle p.data.toList=false:=by
 rw [to_list] at h1 h2;have e1:(p.data.toList==[])=false:=by rw [beq_eq_false_iff_ne];exact h1
 have e2:(p.data.toList==[46])=false:=by rw [beq_eq_false_iff_ne];exact h2
 unfold idle;rw [e1,e2];rfl
theorem Jgl {P:List ByteArray} {j:Nat} {p:ByteArray} (h:P[j]?=some p):P.take (j+1)=P.take j++[p]:=by
 rw [List.take_add_one,h];rfl
theorem Jf8 {P:List ByteArray} {j:Nat} {p:ByteArray} (h:P[j]?=some p) (hi:idle p.data.toList=true):(P.take (j+1)).filter keepB=(P.take j).filter keepB:=by
 rw [Jgl h,List.filter_append];simp [keepB,hi]
theorem Jfz {P:List ByteArray} {j:Nat} {p:ByteArray} (h:P[j]?=some p) (hi:idle p.data.toList=false):(P.take (j+1)).filter keepB=(P.take j).filter keepB++[p]:=by
 rw [Jgl h,List.filter_append];simp [keepB,hi]
theorem Jeb {P:List ByteArray} {j:Nat} {p:ByteArray} (h:P[j]?=some p) (hg:∀q∈P.take j,bad q.data.toList=false) (hp:bad p.data.toList=false):∀q∈P.take (j+1),bad q.data.toList=false:=by
 rw [Jgl h];intro q hq;rcases List.mem_append.1 hq with hq |hq
 ·exact hg q hq
 ·rw [List.mem_singleton.1 hq];exact hp
theorem Jdy {p:List UInt8} (h:idle p=true):bad p=false:=by unfold bad;rw [h];rfl
theorem Jjw {p:List UInt8} (h:p=[46,46]):bad p=false:=by rw [h];rfl
theorem Jhp {p:List UInt8} (h:right p=true):bad p=false:=by unfold bad;rw [h];simp
theorem Jp3 {p:List UInt8} (h1:idle p=false) (h2:p≠[46,46]) (h3:right p=false):bad p=true:=by
 have e:(p==[46,46])=false:=by simpa using h2
 unfold bad;rw [h1,e,h3];rfl
theorem Jig {l:List UInt8} {P:List ByteArray} {p:ByteArray} (hP:P.map (fun x=>x.data.toList)=cut l) (hp:p∈P) (hb:bad p.data.toList=true):parts l=none:=by
 unfold parts;have h:(cut l).any bad=true:=by
  rw [←hP,List.any_map];exact List.any_eq_true.2 ⟨p,hp,hb⟩
 rw [if_pos (.inr (.inr h))]
theorem Jh9 {l:List UInt8} {P:List ByteArray} (h1:1≤l.length) (h2:l.length≤1024) (hP:P.map (fun x=>x.data.toList)=cut l) (hg:∀p∈P,bad p.data.toList=false):parts l=some ((P.filter keepB).map fun x=>x.data.toList):=by
 unfold parts;rw [if_neg]
 ·rw [←hP,List.filter_map]
  rfl
 ·rintro (h |h |h)
  ·omega
  ·omega
  ·rw [←hP,List.any_map,List.any_eq_true] at h
   obtain⟨p,hp,hb⟩:=h;have h2:bad p.data.toList=true:=hb;rw [hg p hp] at h2;cases h2

theorem Jsr:∀(l:List UInt8) (p:List UInt8),p∈cut l→p.length≤l.length
 |[],p,h=>by
  have:p=[]:=by simpa [cut] using h
  rw [this];exact Nat.zero_le _
 |b::l,p,h=>by
  have ih:=Jsr l;unfold cut at h;split at h
  ·rcases List.mem_cons.1 h with rfl |h
   ·exact Nat.zero_le _
   ·have:=ih p h
    simp only [List.length_cons];omega
  ·split at h
   ·rw [List.mem_singleton.1 h];simp
   ·rename_i q r hq
    rcases List.mem_cons.1 h with rfl |h
    ·have:=ih q (by rw [hq];exact List.mem_cons_self)
     simp only [List.length_cons];omega
    ·have:=ih p (by rw [hq];exact List.mem_cons_of_mem _ h)
     simp only [List.length_cons];omega
theorem Jr8 {l:List UInt8} {P:List ByteArray} {p:ByteArray} {j:Nat} (hP:P.map (fun x=>x.data.toList)=cut l) (hp:P[j]?=some p):p.size≤l.length:=by
 rw [←size_list];refine Jsr l _ ?_;rw [←hP];exact List.mem_map.2 ⟨p,List.mem_of_getElem? hp,rfl⟩
theorem Jqj (s:ByteArray) (h:0<s.size):((s[0].toNat:Int)==47)=(s.data.toList.head?==some 47):=by
 obtain⟨⟨l⟩⟩:=s;cases l with
 |nil=>exact absurd h (by simp [ByteArray.size])
 |cons b l=>
  show ((b.toNat:Int)==47)=(some b==some 47)
  rw [Bool.eq_iff_iff,beq_iff_eq,beq_iff_eq];constructor
  ·intro e
   exact congrArg some (UInt8.toNat_inj.1 (by simpa using Int.ofNat_inj.1 e))
  ·intro e
   rw [Option.some.inj e];rfl

theorem Jus {w:World} {base:Nat} {e:TypeId} {size n:Nat} {v:Value} {xs:List Value} (h:w.ownsRow base e size v n xs):∃A c,v= .slice A n c:=by
 rcases h.2 with⟨rfl,rfl⟩ |⟨g,cap,cur,rfl,_⟩
 ·exact⟨_,_,rfl⟩
 ·exact⟨_,_,rfl⟩
theorem Jce {w:World} {B B':Nat} {e:TypeId} {size n:Nat} {v:Value} {xs:List Value} (h:w.ownsRow B e size v n xs) (hB:B'≤B):w.ownsRow B' e size v n xs:=
 ⟨h.1,h.2.imp id fun⟨g,cap,cur,hv,hb,hr⟩=>⟨g,cap,cur,hv,Nat.le_trans hB hb,hr⟩⟩
theorem Jc5 {B:Nat} {a w w4:World} {e:TypeId} {size n:Nat} {v:Value} {xs:List Value} {o:Obj} (hb:Below B a w) (hown:w.ownsRow B e size v n xs) (hg:(w.alloc o).grownBy w4 v.ownBlock) (hB:B≤a.heap.size:=by simp):Below B a w4:=
 ((hb.alloc (Nat.le_trans hB hb.size) o)).grown hg (by have:=hb.size;simp;omega) (fun k hk=>((hown.lt k hk).1))

def SplitsTo (B:Nat) (l:List UInt8) (e:Ending) (w':World):Prop:=
 (parts l=none∧e= .returned (.tuple #[.slice none 0 0,.bool false,.int .i64 1]))∨
 ∃(v:Value) (Q:List ByteArray),parts l=some (Q.map fun x=>x.data.toList)∧e= .returned (.tuple #[v,.bool (l.head?==some 47),.int .i64 0])∧w'.ownsRow B 9 1 v Q.length (Q.map Value.string)
theorem Jrt (s:ByteArray) (m:Int) (w:World) (hs:s.size≤9223372036854775807) (hm:w.cell? ⟨1,0,none⟩=some (.int .i64 m)):
  Calls prog 212 #[.string s] w fun e w'=>SplitsTo w.heap.size s.data.toList e w'∧Below w.heap.size w w':=by
 have hl:s.data.toList.length=s.size:=size_list s;by_cases e0:s.size<1
 ·have hp:parts s.data.toList=none:=by unfold parts;rw [if_pos (.inl (by omega))]
  have HP:=Lib.hid hp;clear hl hm hp;go_enter func212,ntmps212
  go_wp2
  go_ret3
  exact⟨.inl ⟨HP.out,rfl⟩,Below.refl _ _⟩
 ·have d0:decide ((s.size:Int)<1)=false:=by simp;omega
  by_cases e3:1024<s.size
  ·have hp:parts s.data.toList=none:=by unfold parts;rw [if_pos (.inr (.inl (by omega)))]
   have HP:=Lib.hid hp;clear hl hm hp;go_enter func212,ntmps212
   go_wp2
   go_ret3
   exact⟨.inl ⟨HP.out,rfl⟩,Below.refl _ _⟩
  ·have d3:decide (1024<(s.size:Int))=false:=by simp;omega
   obtain⟨i0,hi,hz0,hz1,hz2⟩:=info_parts info9;have HM:=Lib.hid hm;have HLn:=Lib.hid hl;clear hm hl;go_enter func212,ntmps212
   go_wp2_with fail
   refine (Jdl s m _ (by omega) HM.out).mono ?_;rintro e w' ⟨P,rfl,hP,hPl,rfl⟩;have HP:=Lib.hid hP;clear hP d0 d3;go_wp2_with fail
   go_loopw [2,18] (fun v c wr=>∃(j:Nat) (Q:List ByteArray),j≤P.length∧c= .int .i64 j∧Q=(P.take j).filter keepB∧(∀q∈P.take j,bad q.data.toList=false)∧wr.ownsRow (w.heap.size+1) 9 1 v Q.length (Q.map Value.string)∧
       Below (w.heap.size+1) (w.alloc (.cells (P.map Value.string).toArray 9)) wr)
     (fun _ c _=>P.length - (intOf c).toNat)
   case atStart=>exact⟨0,[],Nat.zero_le _,rfl,rfl,by simp,World.ownsRow_nil _ _ _ _,Below.refl _ _⟩
   case round=>
    obtain⟨j,Q,hj,rfl,hQ,hg,hown,hbel⟩:=hrel;have HQ:=Lib.hid hQ;have HG:=Lib.hid hg;have HB:=Lib.hid hbel;have hQl:Q.length≤1025:=by
     rw [hQ];have h1:=List.length_filter_le keepB (P.take j);have h2:(P.take j).length≤P.length:=List.length_take_le' _ _;omega
    have HO:=Lib.hid hown;clear hQ hg hown;by_cases hlt:j<P.length
    ·obtain⟨p,hp⟩:∃p,P[j]?=some p:=⟨_,List.getElem?_eq_getElem hlt⟩
     have hcell:wr.cell? ⟨w.heap.size,j,none⟩=some (.string p):=by
      rw [hbel.cell (p:=⟨w.heap.size,j,none⟩) (by simp)];rw [Jaa (heap_alloc_new w _) j];simp [hp]
     have HPj:=Lib.hid hp;clear hp hbel;by_cases c0:p.toList=[]
     ·have f0:p.toList.isEmpty=true:=by rw [c0];rfl
      have HI:=Lib.hid (Jhw (.inl c0));clear c0;go_wp2_with fail
      go_roundw
      case rel=>exact⟨j+1,Q,by omega,by go_num,by rw [Jf8 HPj.out HI.out];exact HQ.out,Jeb HPj.out HG.out (Jdy HI.out),HO.out,HB.out⟩
      case measure=>simp [intOf];omega
     ·have f0:p.toList.isEmpty=false:=by simpa using c0
      by_cases c1:p.toList=[46]
      ·have f1:(p.toList==[46])=true:=by rw [c1];rfl
       have HI:=Lib.hid (Jhw (.inr c1));clear c1;go_wp2_with fail
       go_roundw
       case rel=>exact⟨j+1,Q,by omega,by go_num,by rw [Jf8 HPj.out HI.out];exact HQ.out,Jeb HPj.out HG.out (Jdy HI.out),HO.out,HB.out⟩
       case measure=>simp [intOf];omega
      ·have f1:(p.toList==[46])=false:=by simpa using c1
       have HI:=Lib.hid (Jnp c0 c1);by_cases c2:p.toList=[46,46]
       ·have f2:(p.toList !=[46,46])=false:=by rw [c2];rfl
        have f3:(p.toList==[46,46])=true:=by rw [c2];rfl
        have HD:=Lib.hid (Jjw (by rw [←to_list];exact c2):bad p.data.toList=false);clear c0 c1 c2;go_wp2_with (at_builtin;refine wpList_append_lies _ rfl (.tmp 35) (.tmp 37) _ rfl (w.heap.size+1) 9 i0 _ 1 16 underlying27 hi hz0 hz1 hz2 rfl (by omega) _ _ _ rfl (HO.out.alloc _) ⟨wr.heap.size,0,none⟩ 1 1 [.string p] rfl rfl (World.news_of_block (cs:=#[.string p]) (t:=9) (fr:=(0,0)) (heap_alloc_new wr _)) (by simp [Value.oneCell']) (by omega) (by simp only [maxLen];omega) (by omega) (by have:=HB.out.size;simp at this ⊢;omega) (wr.heap.size+1) (by simp) ?_;intro gg gc w4 hown4 hgrow hat hlt4)
        have HB4:=Lib.hid (Jc5 HB.out HO.out hgrow);clear hgrow hat;go_roundw
        case rel=>exact⟨j+1,Q++[p],by omega,by go_num,by rw [Jfz HPj.out HI.out,←HQ.out],Jeb HPj.out HG.out HD.out,by simpa using hown4,HB4.out⟩
        case measure=>simp [intOf];omega
       ·have f2:(p.toList !=[46,46])=true:=by simpa using c2
        have f3:(p.toList==[46,46])=false:=by simpa using c2
        have hps:p.size≤9223372036854775807:=by have:=Jr8 HP.out HPj.out;rw [HLn.out] at this;omega
        have c2':p.data.toList≠[46,46]:=by rw [←to_list];exact c2
        rcases hr:right p.data.toList with _ |_
        ·have HN:=Lib.hid (Jig HP.out (List.mem_of_getElem? HPj.out) (Jp3 HI.out c2' hr))
         have HR:=Lib.hid hr;clear c0 c1 c2 c2' hr;go_wp2_with fail
         refine (Jmz p _ hps HR.out).mono ?_;rintro e w' ⟨rfl,rfl⟩;go_wp2_with fail
         go_ret3
         exact⟨.inl ⟨HN.out,rfl⟩,((Below.refl _ w).alloc (Nat.le_refl _) _).trans (HB.out.mono (by omega))⟩
        ·have HR:=Lib.hid hr
         have HD:=Lib.hid (Jhp hr);clear c0 c1 c2 c2' hr;go_wp2_with fail
         refine (Jco p _ hps HR.out).mono ?_;rintro e w' ⟨rfl,rfl⟩;go_wp2_with (at_builtin;refine wpList_append_lies _ rfl (.tmp 35) (.tmp 37) _ rfl (w.heap.size+1) 9 i0 _ 1 16 underlying27 hi hz0 hz1 hz2 rfl (by omega) _ _ _ rfl (HO.out.alloc _) ⟨wr.heap.size,0,none⟩ 1 1 [.string p] rfl rfl (World.news_of_block (cs:=#[.string p]) (t:=9) (fr:=(0,0)) (heap_alloc_new wr _)) (by simp [Value.oneCell']) (by omega) (by simp only [maxLen];omega) (by omega) (by have:=HB.out.size;simp at this ⊢;omega) (wr.heap.size+1) (by simp) ?_;intro gg gc w4 hown4 hgrow hat hlt4)
         have HB4:=Lib.hid (Jc5 HB.out HO.out hgrow);clear hgrow hat;go_roundw
         case rel=>exact⟨j+1,Q++[p],by omega,by go_num,by rw [Jfz HPj.out HI.out,←HQ.out],Jeb HPj.out HG.out HD.out,by simpa using hown4,HB4.out⟩
         case measure=>simp [intOf];omega
    ·have hje:P.take j=P:=List.take_of_length_le (by omega)
     rw [hje] at HG HQ;have HS:=Lib.hid (Jh9 (by rw [HLn.out];omega) (by rw [HLn.out];omega) HP.out HG.out);have h0s:0<s.size:=by omega
     have HH:=Lib.hid (Jqj s h0s);obtain⟨QA,qc,rfl⟩:=Jus HO.out;have hi0:(0:Int)<(s.size:Int):=by omega
     go_wp2_with fail
     go_region
     go_wp2
     go_ret3
     refine⟨.inr ⟨_,Q,by rw [HQ.out];exact HS.out,?_,Jce HO.out.drew (by omega)⟩,((Below.refl _ w).alloc (Nat.le_refl _) _).trans ((HB.out.mono (by omega)).drew)⟩;rw [←HH.out];rfl


theorem Jhu:∀p:List UInt8,(47:UInt8) ∉ p→cut p=[p]
 |[],_=>rfl
 |b::p,h=>by
  have hb:b≠47:=fun e=>h (by rw [e];exact List.mem_cons_self);rw [cut,if_neg hb,Jhu p (fun hm=>h (List.mem_cons_of_mem _ hm))]
theorem Jqz (r:List UInt8):∀p:List UInt8,(47:UInt8) ∉ p→cut (p++47::r)=p::cut r
 |[],_=>by rw [List.nil_append,cut,if_pos rfl]
 |b::p,h=>by
  have hb:b≠47:=fun e=>h (by rw [e];exact List.mem_cons_self);rw [List.cons_append,cut,if_neg hb,Jqz r p (fun hm=>h (List.mem_cons_of_mem _ hm))]
theorem Jkg:∀l:List UInt8,(cut l).length≤l.length+1
 |[]=>Nat.le_refl _
 |b::l=>by
  have ih:=Jkg l;unfold cut;split
  ·simp only [List.length_cons];omega
  ·split
   ·simp
   ·rename_i q r hq
    rw [hq] at ih;simp only [List.length_cons] at ih ⊢;omega
theorem Jte (s:ByteArray) (f i:Nat) (hfi:f≤i) (hn:(47:UInt8) ∉ (s.data.toList.drop f).take (i - f)) (h:i=s.size∨∃hlt:i<s.size,s[i]=47):
  cut (s.data.toList.drop f)=(s.extract f i).data.toList::(if i<s.size then cut (s.data.toList.drop (i+1)) else []):=by
 have he:(s.extract f i).data.toList=(s.data.toList.drop f).take (i - f):=Lib.extract_data s f i;rw [he];have hl:=size_list s;rcases h with h |⟨hlt,h⟩
 ·rw [if_neg (by omega)]
  have e:(s.data.toList.drop f).take (i - f)=s.data.toList.drop f:=List.take_of_length_le (by rw [List.length_drop];omega);rw [e] at hn ⊢;exact Jhu _ hn
 ·rw [if_pos hlt]
  have e:s.data.toList.drop f=(s.data.toList.drop f).take (i - f)++47::s.data.toList.drop (i+1):=by
   have e1:(s.data.toList.drop f).drop (i - f)=s.data.toList.drop i:=by rw [List.drop_drop];congr 1;omega
   have e2:s.data.toList.drop i=s[i]::s.data.toList.drop (i+1):=by
    rw [List.drop_eq_getElem_cons (by omega)];rfl
   rw [←h,←e2,←e1,List.take_append_drop]
  have:=Jqz (s.data.toList.drop (i+1)) _ hn;rw [←e] at this;exact this
theorem Jon (s:ByteArray) (f i:Nat) (hfi:f≤i) (hlt:i<s.size) (hn:(47:UInt8) ∉ (s.data.toList.drop f).take (i - f)) (h:s[i]≠47):(47:UInt8) ∉ (s.data.toList.drop f).take (i+1 - f):=by
 have e:i+1 - f=i - f+1:=by omega
 have hl:=size_list s;rw [e,List.take_succ_eq_append_getElem (by rw [List.length_drop];omega)];intro hm;rcases List.mem_append.1 hm with hm |hm
 ·exact hn hm
 ·rw [List.mem_singleton,List.getElem_drop] at hm
  apply h;rw [hm];show s.data.toList[i]=s.data.toList[f+(i - f)];congr 1;omega

theorem Jjz (s:ByteArray) (w:World) (hs:s.size≤9223372036854775807) (h:right s.data.toList=true):Calls prog 134 #[.string s] w fun e w'=>e= .returned (.bool true)∧w=w':=
 (Jbi s w hs).mono fun _ _ ⟨he,hw⟩=>⟨by rw [he,h],hw⟩
theorem Jlt (s:ByteArray) (w:World) (hs:s.size≤9223372036854775807) (h:right s.data.toList=false):Calls prog 134 #[.string s] w fun e w'=>e= .returned (.bool false)∧w=w':=
 (Jbi s w hs).mono fun _ _ ⟨he,hw⟩=>⟨by rw [he,h],hw⟩

structure Come (s:ByteArray) (i f:Nat) (ps:List (List UInt8)) (Q:List ByteArray):Prop where
 le:f≤i
 most:i≤s.size+1
 some_:i≤s.size→cut s.data.toList=ps++cut (s.data.toList.drop f)∧(47:UInt8) ∉ (s.data.toList.drop f).take (i - f)
 none_:i=s.size+1→cut s.data.toList=ps
 good:∀p∈ps,bad p=false
 kept:Q.map (fun x=>x.data.toList)=ps.filter fun p=> !idle p
theorem Come.start (s:ByteArray):Come s 0 0 [] []:=⟨Nat.le_refl _,Nat.zero_le _,fun _=>⟨by simp,by simp⟩,fun h=>by omega,by simp,rfl⟩
theorem Come.on {s:ByteArray} {i f:Nat} {ps:List (List UInt8)} {Q:List ByteArray} (h:Come s i f ps Q) (hlt:i<s.size) (hb:s[i]≠47):Come s (i+1) f ps Q:=
 ⟨Nat.le_succ_of_le h.le,by omega,fun _=>⟨(h.some_ (by omega)).1,Jon s f i h.le hlt (h.some_ (by omega)).2 hb⟩,fun e=>by omega,h.good,h.kept⟩
theorem Come.piece {s:ByteArray} {i f:Nat} {ps:List (List UInt8)} {Q:List ByteArray} (h:Come s i f ps Q) (hi:i≤s.size) (he:i=s.size∨∃hlt:i<s.size,s[i]=47):
  cut s.data.toList=ps++((s.extract f i).data.toList::(if i<s.size then cut (s.data.toList.drop (i+1)) else [])):=by
 rw [←Jte s f i h.le (h.some_ hi).2 he];exact (h.some_ hi).1
theorem Come.next {s:ByteArray} {i f:Nat} {ps:List (List UInt8)} {Q Q':List ByteArray} (h:Come s i f ps Q) (hi:i≤s.size) (he:i=s.size∨∃hlt:i<s.size,s[i]=47)
  (hg:bad (s.extract f i).data.toList=false) (hQ:Q'=if idle (s.extract f i).data.toList then Q else Q++[s.extract f i]):Come s (i+1) (i+1) (ps++[(s.extract f i).data.toList]) Q':=by
 have hp:=h.piece hi he;refine⟨Nat.le_refl _,by omega,fun hle=>⟨?_,by simp⟩,fun hee=>?_,fun p hm=>?_,?_⟩
 ·rw [hp,if_pos (by omega),List.append_assoc];rfl
 ·rw [hp,if_neg (by omega)]
 ·rcases List.mem_append.1 hm with hm |hm
  ·exact h.good p hm
  ·rw [List.mem_singleton.1 hm];exact hg
 ·rw [hQ,List.filter_append,←h.kept]
  generalize s.extract f i=x;cases hid:idle x.data.toList<;>simp [hid]
theorem Come.count {s:ByteArray} {i f:Nat} {ps:List (List UInt8)} {Q:List ByteArray} (h:Come s i f ps Q):Q.length≤s.size+1:=by
 have h1:Q.length=(ps.filter fun p=> !idle p).length:=by rw [←h.kept,List.length_map]
 have h2:=List.length_filter_le (fun p=> !idle p) ps;have h3:=Jkg s.data.toList;have h4:ps.length≤(cut s.data.toList).length:=by
  by_cases hi:i≤s.size
  ·rw [(h.some_ hi).1,List.length_append];omega
  ·rw [h.none_ (by have:=h.most;omega)];exact Nat.le_refl _
 rw [size_list] at h3;omega
theorem Come.bad_ {s:ByteArray} {i f:Nat} {ps:List (List UInt8)} {Q:List ByteArray} (h:Come s i f ps Q) (hi:i≤s.size) (he:i=s.size∨∃hlt:i<s.size,s[i]=47)
  (hb:bad (s.extract f i).data.toList=true):parts s.data.toList=none:=by
 unfold parts;have:(cut s.data.toList).any bad=true:=by
  rw [h.piece hi he,List.any_append,List.any_cons,hb];simp
 rw [if_pos (.inr (.inr this))]
theorem Come.done {s:ByteArray} {i f:Nat} {ps:List (List UInt8)} {Q:List ByteArray} (h:Come s i f ps Q) (hi:¬i≤s.size) (h1:1≤s.size) (h2:s.size≤1024):parts s.data.toList=some (Q.map fun x=>x.data.toList):=by
 have hc:=h.none_ (by have:=h.most;omega);unfold parts;rw [if_neg,hc,h.kept];rw [size_list,hc];rintro (h |h' |h')
 ·omega
 ·omega
 ·rw [List.any_eq_true] at h'
  obtain⟨p,hp,hb⟩:=h';rw [h.good p hp] at hb;cases hb

def RefTo (B:Nat) (l:List UInt8) (e:Ending) (w':World):Prop:=
 (parts l=none∧e= .returned (.tuple #[.slice none 0 0,.bool false]))∨
 ∃(v:Value) (Q:List ByteArray),parts l=some (Q.map fun x=>x.data.toList)∧e= .returned (.tuple #[v,.bool true])∧w'.ownsRow B 9 1 v Q.length (Q.map Value.string)
theorem Jj8 (s:ByteArray) (w:World) (hs:s.size≤9223372036854775807):
  Calls prog 102 #[.string s] w fun e w'=>RefTo w.heap.size s.data.toList e w'∧Below w.heap.size w w':=by
 have hl:s.data.toList.length=s.size:=size_list s;by_cases e0:s.size<1
 ·have hp:parts s.data.toList=none:=by unfold parts;rw [if_pos (.inl (by omega))]
  have HP:=Lib.hid hp;clear hl hp;go_enter func102,ntmps102
  go_wp2
  go_ret2
  exact⟨.inl ⟨HP.out,rfl⟩,Below.refl _ _⟩
 ·have d0:decide ((s.size:Int)<1)=false:=by simp;omega
  by_cases e3:1024<s.size
  ·have hp:parts s.data.toList=none:=by unfold parts;rw [if_pos (.inr (.inl (by omega)))]
   have HP:=Lib.hid hp;clear hl hp;go_enter func102,ntmps102
   go_wp2
   go_ret2
   exact⟨.inl ⟨HP.out,rfl⟩,Below.refl _ _⟩
  ·have d3:decide (1024<(s.size:Int))=false:=by simp;omega
   obtain⟨i0,hi,hz0,hz1,hz2⟩:=info_parts info9;clear hl;go_enter func102,ntmps102
   go_wp2_with fail
   clear d0 d3;go_loopw [4,5,6] (fun v a c wr=>∃(i f:Nat) (ps:List (List UInt8)) (Q:List ByteArray),Come s i f ps Q∧c= .int .i64 i∧a= .int .i64 f∧wr.ownsRow w.heap.size 9 1 v Q.length (Q.map Value.string)∧Below w.heap.size w wr)
    (fun _ _ c _=>s.size+1 - (intOf c).toNat)
   case atStart=>
    exact⟨0,0,[],[],Come.start s,rfl,rfl,World.ownsRow_made w #[] 0 (Nat.le_refl _) (by decide) rfl,(Below.refl _ _).alloc (Nat.le_refl _) _⟩
   case round=>
    obtain⟨i,f,ps,Q,hcome,rfl,rfl,hown,hbel⟩:=hrel;have HC:=Lib.hid hcome;have hfi:=hcome.le;have hQl:=hcome.count;have hmost:=hcome.most;have HO:=Lib.hid hown;have HB:=Lib.hid hbel;clear hcome hown hbel;by_cases hle:i≤s.size
    ·by_cases hgo:∃hlt:i<s.size,s[i]≠47
     ·obtain⟨hlt,hb⟩:=hgo
      have g1:((s[i].toNat:Int) !=47)=true:=by
       rw [bne_iff_ne];intro e;exact hb (UInt8.toNat_inj.1 (by simpa using Int.ofNat_inj.1 e))
      have HN:=Lib.hid (HC.out.on hlt hb);clear hb;go_wp2_with fail
      go_roundw
      case rel=>exact⟨i+1,f,ps,Q,HN.out,by go_num,rfl,HO.out,HB.out⟩
      case measure=>simp [intOf];omega
     ·have he:i=s.size∨∃hlt:i<s.size,s[i]=47:=by
       by_cases hlt:i<s.size
       ·refine .inr ⟨hlt,?_⟩
        by_cases hb:s[i]=47
        ·exact hb
        ·exact absurd ⟨hlt,hb⟩ hgo
       ·exact .inl (by omega)
      have N:=fun Q' hg hQ=>HC.out.next (Q':=Q') hle he hg hQ;have BD:=fun hb=>HC.out.bad_ hle he hb;obtain⟨p,hp⟩:=words.nm (s.extract f i);have hps:p.size≤9223372036854775807:=by rw [hp,ByteArray.size_extract];omega
      rw [←hp] at N BD;have HN:=Lib.hid N;have HBD:=Lib.hid BD;have hsl:∀wx:World,(Instr.slice 9 (.string s) (some (.int .i64 (f:Int))) (some (.int .i64 (i:Int))) none).run prog wx= .ok (.string p) wx:=fun wx=>by
       rw [run_slice_string_if (P:=prog) (w:=wx) 9 s .i64 .i64 f i underlying9,if_pos ⟨by omega,by omega⟩,if_pos ⟨by omega,by omega⟩,hp];rfl
      have hcase:(∃hlt:i<s.size,((s[i].toNat:Int) !=47)=false)∨¬i<s.size:=by
       rcases he with h |⟨hlt,h⟩
       ·exact .inr (by omega)
       ·exact .inl ⟨hlt,by rw [h];rfl⟩
      clear N BD hgo he hp;by_cases c0:p.toList=[]
      ·have f0:p.toList.isEmpty=true:=by rw [c0];rfl
       have HI:=Lib.hid (Jhw (.inl c0));clear c0;rcases hcase with⟨hlt,g1⟩ |hlt;all_goals
        go_wp2_with fail
        go_roundw
        case rel=>exact⟨i+1,i+1,_,Q,HN.out Q (Jdy HI.out) (by rw [HI.out];rfl),by go_num,by go_num,HO.out,HB.out⟩
        case measure=>simp [intOf];omega
      ·have f0:p.toList.isEmpty=false:=by simpa using c0
       by_cases c1:p.toList=[46]
       ·have f1:(p.toList==[46])=true:=by rw [c1];rfl
        have HI:=Lib.hid (Jhw (.inr c1));clear c1 c0;rcases hcase with⟨hlt,g1⟩ |hlt;all_goals
         go_wp2_with fail
         go_roundw
         case rel=>exact⟨i+1,i+1,_,Q,HN.out Q (Jdy HI.out) (by rw [HI.out];rfl),by go_num,by go_num,HO.out,HB.out⟩
         case measure=>simp [intOf];omega
       ·have f1:(p.toList==[46])=false:=by simpa using c1
        have HI:=Lib.hid (Jnp c0 c1);by_cases c2:p.toList=[46,46]
        ·have f2:(p.toList !=[46,46])=false:=by rw [c2];rfl
         have f3:(p.toList==[46,46])=true:=by rw [c2];rfl
         have HD:=Lib.hid (Jjw (by rw [←to_list];exact c2):bad p.data.toList=false);clear c0 c1 c2;rcases hcase with⟨hlt,g1⟩ |hlt;all_goals
          go_wp2_with (at_builtin;refine wpList_append_lies _ rfl (.tmp 52) (.tmp 54) _ rfl w.heap.size 9 i0 _ 1 16 underlying27 hi hz0 hz1 hz2 rfl (by omega) _ _ _ rfl (HO.out.alloc _) ⟨wr.heap.size,0,none⟩ 1 1 [.string p] rfl rfl (World.news_of_block (cs:=#[.string p]) (t:=9) (fr:=(0,0)) (heap_alloc_new wr _)) (by simp [Value.oneCell']) (by omega) (by simp only [maxLen];omega) (by omega) (by have:=HB.out.size;simp at this ⊢;omega) (wr.heap.size+1) (by simp) ?_;intro gg gc w4 hown4 hgrow hat hlt4)
          have HB4:=Lib.hid (Jc5 HB.out HO.out hgrow (Nat.le_refl _));clear hgrow hat;go_roundw
          case rel=>exact⟨i+1,i+1,_,Q++[p],HN.out (Q++[p]) HD.out (by rw [HI.out];rfl),by go_num,by go_num,by simpa using hown4,HB4.out⟩
          case measure=>simp [intOf];omega
        ·have f2:(p.toList !=[46,46])=true:=by simpa using c2
         have f3:(p.toList==[46,46])=false:=by simpa using c2
         have c2':p.data.toList≠[46,46]:=by rw [←to_list];exact c2
         rcases hr:right p.data.toList with _ |_
         ·have HNo:=Lib.hid (HBD.out (Jp3 HI.out c2' hr))
          have HR:=Lib.hid hr;clear c0 c1 c2 c2' hr;rcases hcase with⟨hlt,g1⟩ |hlt;all_goals
           go_wp2_with fail
           refine (Jlt p _ hps HR.out).mono ?_;rintro e w' ⟨rfl,rfl⟩;go_wp2_with fail
           go_ret2
           exact⟨.inl ⟨HNo.out,rfl⟩,HB.out⟩
         ·have HR:=Lib.hid hr
          have HD:=Lib.hid (Jhp hr);clear c0 c1 c2 c2' hr;rcases hcase with⟨hlt,g1⟩ |hlt;all_goals
           go_wp2_with fail
           refine (Jjz p _ hps HR.out).mono ?_;rintro e w' ⟨rfl,rfl⟩;go_wp2_with (at_builtin;refine wpList_append_lies _ rfl (.tmp 52) (.tmp 54) _ rfl w.heap.size 9 i0 _ 1 16 underlying27 hi hz0 hz1 hz2 rfl (by omega) _ _ _ rfl (HO.out.alloc _) ⟨wr.heap.size,0,none⟩ 1 1 [.string p] rfl rfl (World.news_of_block (cs:=#[.string p]) (t:=9) (fr:=(0,0)) (heap_alloc_new wr _)) (by simp [Value.oneCell']) (by omega) (by simp only [maxLen];omega) (by omega) (by have:=HB.out.size;simp at this ⊢;omega) (wr.heap.size+1) (by simp) ?_;intro gg gc w4 hown4 hgrow hat hlt4)
           have HB4:=Lib.hid (Jc5 HB.out HO.out hgrow (Nat.le_refl _));clear hgrow hat;go_roundw
           case rel=>exact⟨i+1,i+1,_,Q++[p],HN.out (Q++[p]) HD.out (by rw [HI.out];rfl),by go_num,by go_num,by simpa using hown4,HB4.out⟩
           case measure=>simp [intOf];omega
    ·have HD:=Lib.hid (HC.out.done hle (by omega) (by omega))
     go_wp2_with fail
     go_ret2
     exact⟨.inr ⟨_,Q,HD.out,rfl,HO.out⟩,HB.out⟩
end Go.Proofs.YtekekhgjobahaaaGreatDoor.name
