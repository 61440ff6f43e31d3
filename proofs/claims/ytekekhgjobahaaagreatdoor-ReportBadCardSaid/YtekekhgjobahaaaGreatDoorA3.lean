import Derived.Test.YtekekhgjobahaaaGreatDoorA2
import Derived.Shelf.Abstract
set_option maxHeartbeats 6400000
set_option maxRecDepth 100000
open Go.Lib (hid)
open Go.Proofs.Tryz
namespace Go.Proofs.YtekekhgjobahaaaGreatDoor.rep
open Go.RowKit words

def Tk (w:World) (t:Nat) (cs:List Value):Prop:=w.heap[t]?=some (.cells cs.toArray 206 (0,0))
variable {w w':World} {t:Nat} {cs:List Value} {S:Nat→Prop}
theorem Tk.at (h:Tk w t cs) {i:Nat} {u:Value} (hu:cs[i]?=some u):w.cell? ⟨t,i,none⟩=some u:=by
 unfold Tk at h;rw [Jaa h,List.getElem?_toArray];exact hu
theorem Tk.tn (h:Tk w t cs) (ht:lru.Tn S w w') (hS:¬S t):Tk w' t cs:=(ht.block t (lt_of_some h) hS).trans h
theorem Tk.later (h:Tk w t cs) (hb:Below w.heap.size w w'):Tk w' t cs:=stp.old hb h
theorem Tk.there (h:Tk w t cs) {o n:Nat} (hl:o+n≤cs.length):w.there t o n:=fun j hj=>by
 refine⟨?_,Jab h _⟩;rw [Jaa h,List.getElem?_toArray,List.getElem?_eq_getElem (by omega)];rfl
theorem Tk.put (h:Tk w t cs) (o:Nat) (vs:List Value) (hl:o+vs.length≤cs.length):Tk (w.setCells t o vs) t (cs.take o++vs++cs.drop (o+vs.length)):=by
 obtain⟨cur',h1,h2⟩:=tal.heap_setCells vs o w t _ h (by rw [List.size_toArray];exact hl);unfold Tk;rw [h1,←h2]
theorem Tk.one (h:Tk w t cs) (o:Nat) (u:Value) (hl:o<cs.length):Tk (w.setCell ⟨t,o,none⟩ u) t (cs.take o++[u]++cs.drop (o+1)):=h.put o [u] hl
def Me (t k:Nat):Prop:=k=t
theorem Jp8 {t:Nat} {cs:List Value} (hl:cs.length=25) (e k z h d:Int) (x:ByteArray) (A:Option Addr) (n c:Nat) (en:Bool) (w:World) (hT:Tk w t cs):
  Calls prog 186 #[.pointer (some ⟨t,0,none⟩),.agg #[.int .i64 e,.int .i64 k,.int .i64 z,.int .i64 h,.int .i64 d,.string x,.slice A n c,.bool en]] w fun e' w'=>e'= .returned (.tuple #[])∧Tk w' t (cs.take 9++[Value.bool true,.int .i64 e,.int .i64 k,.int .i64 z,.int .i64 h,.int .i64 d,.string x,.slice A n c,.bool en]++cs.drop 18)∧lru.Tn (Me t) w w':=by
 obtain⟨W1,hW1⟩:=words.nm (w.alloc (.cells #[.int .i64 e,.int .i64 k,.int .i64 z,.int .i64 h,.int .i64 d,.string x,.slice A n c,.bool en] 57));obtain⟨hx,hb1⟩:=stp.new hW1;obtain⟨b,hb⟩:=words.nm (w.heap.size);rw [←hb] at hx;have HG:=hid hb;clear hb;obtain⟨V,hV⟩:=words.nm (W1.drew);have hxV:V.heap[b]?=some (.cells #[.int .i64 e,.int .i64 k,.int .i64 z,.int .i64 h,.int .i64 d,.string x,.slice A n c,.bool en] 57 (0,0)):=by rw [hV];exact hx
 have HCV:Hid (V.cell? ⟨b,0,none⟩=some (.int .i64 e)∧V.cell? ⟨b,1,none⟩=some (.int .i64 k)∧V.cell? ⟨b,2,none⟩=some (.int .i64 z)∧V.cell? ⟨b,3,none⟩=some (.int .i64 h)∧V.cell? ⟨b,4,none⟩=some (.int .i64 d)∧V.cell? ⟨b,5,none⟩=some (.string x)∧V.cell? ⟨b,6,none⟩=some (.slice A n c)∧V.cell? ⟨b,7,none⟩=some (.bool en)):=hid (stp.cs8 hxV);have hT1:Tk V t cs:=by rw [hV];exact hT.later hb1.drew
 obtain⟨u9,hu9⟩:∃u,cs[9]?=some u:=⟨_,List.getElem?_eq_getElem (by omega)⟩
 have y9:V.cell? ⟨t,9,none⟩=some u9:=hT1.at hu9;have z9:=Jab hT1 9;obtain⟨V1,hV1⟩:=words.nm (V.setCell ⟨t,9,none⟩ (.bool true));have hne:b≠t:=by have:=HG.out;have:=lt_of_some hT;omega
 have hxV1:V1.heap[b]?=some (.cells #[.int .i64 e,.int .i64 k,.int .i64 z,.int .i64 h,.int .i64 d,.string x,.slice A n c,.bool en] 57 (0,0)):=by rw [hV1,heap_setCell_other _ _ _ _ hne];exact hxV
 have HCV1:Hid (V1.cell? ⟨b,0,none⟩=some (.int .i64 e)∧V1.cell? ⟨b,1,none⟩=some (.int .i64 k)∧V1.cell? ⟨b,2,none⟩=some (.int .i64 z)∧V1.cell? ⟨b,3,none⟩=some (.int .i64 h)∧V1.cell? ⟨b,4,none⟩=some (.int .i64 d)∧V1.cell? ⟨b,5,none⟩=some (.string x)∧V1.cell? ⟨b,6,none⟩=some (.slice A n c)∧V1.cell? ⟨b,7,none⟩=some (.bool en)):=hid (stp.cs8 hxV1);have hT2:Tk V1 t (cs.take 9++[Value.bool true]++cs.drop 10):=by rw [hV1];exact hT1.one 9 _ (by omega)
 have HTh:Hid (V1.there t 10 8):=hid (hT2.there (by simp;omega));have hn1:lru.Tn (Me t) w V1:=by rw [hV1,hV];exact ((lru.Tn.of_below hb1 _).drew).setCell (p:=⟨t,9,none⟩) (.inr (show Me t t from rfl)) _
 have HF:Hid (Tk (V1.setCells t 10 [.int .i64 e,.int .i64 k,.int .i64 z,.int .i64 h,.int .i64 d,.string x,.slice A n c,.bool en]) t (cs.take 9++[Value.bool true,.int .i64 e,.int .i64 k,.int .i64 z,.int .i64 h,.int .i64 d,.string x,.slice A n c,.bool en]++cs.drop 18)∧lru.Tn (Me t) w (V1.setCells t 10 [.int .i64 e,.int .i64 k,.int .i64 z,.int .i64 h,.int .i64 d,.string x,.slice A n c,.bool en])):=hid ⟨by
   have h3:=hT2.put 10 [.int .i64 e,.int .i64 k,.int .i64 z,.int .i64 h,.int .i64 d,.string x,.slice A n c,.bool en] (by simp;omega);have e1:(cs.take 9++[Value.bool true]++cs.drop 10).take 10=cs.take 9++[Value.bool true]:=by rw [List.take_append_of_le_length (by simp;omega),List.take_of_length_le (by simp;omega)]
   have e2:(cs.take 9++[Value.bool true]++cs.drop 10).drop (10+8)=cs.drop 18:=by
    have hl9:(cs.take 9++[Value.bool true]).length=10:=by simp;omega
    rw [List.drop_append,hl9,List.drop_eq_nil_of_le (by rw [hl9];omega),List.drop_drop];rfl
   rw [e1] at h3;rw [show ([.int .i64 e,.int .i64 k,.int .i64 z,.int .i64 h,.int .i64 d,.string x,.slice A n c,.bool en]:List Value).length=8 from rfl,e2] at h3;simpa using h3,tal.tn_setCells (S:=Me t) (show Me t t from rfl) _ _ _ hn1⟩
 have HV:=hid hV;have HV1:=hid hV1;have HW:=hid hW1.symm;clear hV hV1 hW1 hx hb1 hxV hxV1 hne hT1 hT2 hn1 hT hu9 hl;go_enter func186,ntmps186
 go_upto_region 1 with fail
 rw [HW.out];simp only [←HG.out];clear HW;refine held.wpT_start (S:=fun w'=>w'.cell? ⟨b,0,none⟩=some (.int .i64 e)∧w'.cell? ⟨b,1,none⟩=some (.int .i64 k)∧w'.cell? ⟨b,2,none⟩=some (.int .i64 z)∧w'.cell? ⟨b,3,none⟩=some (.int .i64 h)∧w'.cell? ⟨b,4,none⟩=some (.int .i64 d)∧w'.cell? ⟨b,5,none⟩=some (.string x)∧w'.cell? ⟨b,6,none⟩=some (.slice A n c)∧w'.cell? ⟨b,7,none⟩=some (.bool en)) (T:=fun k=>k==8) (by kernel_rfl) ?_;rw [←HV.out];clear HV;refine stp.tk 0 4 ?_;refine stp.tk 1 5 ?_;refine stp.ld 2 6 (HCV.out) ?_;refine stp.tk 3 7 ?_;refine stp.tk 4 8 ?_;refine held.wpT_one (i:=5) (by kernel_rfl) rfl (fun Kc hK=>?_);go_simp
 rw [←HV1.out];clear HV1 y9 z9;refine hK.out _ _ (fun _ _=>HCV1.out) ?_;clear hK;try simp only
 refine stp.tk 6 9 ?_;refine stp.tk 7 10 ?_;refine held.wpT_one (i:=8) (by kernel_rfl) rfl (fun Kc hK=>?_);rw [if_pos (by kernel_rfl)];refine wp_store_mid 57 _ _ rfl t 10 _ rfl rfl HTh.out (by kernel_rfl) (by simp [Value.oneCell']) ?_;refine hK.out _ _ (fun h=>absurd h (by decide)) ?_;clear hK;try simp only
 refine held.wpT_done (by kernel_rfl) ?_ _;go_wp2_with fail
 go_end0
 exact⟨rfl,HF.out⟩
def ended (mk:Bool) (e k z h d:Int) (x:ByteArray) (A:Option Addr) (n c:Nat) (en:Bool):List Value:=[.pointer none,.int .i64 0,.string ⟨#[]⟩,.int .i64 0,.int .i64 0,.int .i64 0,.string ⟨#[]⟩,.int .i64 0,.nilFunc,.bool mk,.int .i64 e,.int .i64 k,.int .i64 z,.int .i64 h,.int .i64 d,.string x,.slice A n c,.bool en,.pointer none,.string ⟨#[]⟩,.slice none 0 0,.slice none 0 0,.int .i64 0,.int .i64 0,.pointer none]
theorem Jxb {t:Nat} {cs:List Value} (hl:cs.length=25) (mk:Bool) (e k z h d:Int) (x:ByteArray) (A:Option Addr) (n c:Nat) (en:Bool) (w:World) (hT:Tk w t cs) (h9:(cs.drop 9).take 9=[Value.bool mk,.int .i64 e,.int .i64 k,.int .i64 z,.int .i64 h,.int .i64 d,.string x,.slice A n c,.bool en]):
  Calls prog 187 #[.pointer (some ⟨t,0,none⟩)] w fun e' w'=>e'= .returned (.bool true)∧Tk w' t (ended mk e k z h d x A n c en)∧lru.Tn (Me t) w w':=by
 obtain⟨V,hV⟩:=words.nm (w.drew);have hT1:Tk V t cs:=by rw [hV];exact hT
 have hat:∀(i:Nat) (u:Value),i<9→([Value.bool mk,.int .i64 e,.int .i64 k,.int .i64 z,.int .i64 h,.int .i64 d,.string x,.slice A n c,.bool en]:List Value)[i]?=some u→V.cell? ⟨t,9+i,none⟩=some u:=fun i u hi hu=>hT1.at (by
   rw [←h9,List.getElem?_take,if_pos hi,List.getElem?_drop] at hu;exact hu)
 have HCV:Hid (V.cell? ⟨t,9,none⟩=some (.bool mk)∧V.cell? ⟨t,10,none⟩=some (.int .i64 e)∧V.cell? ⟨t,11,none⟩=some (.int .i64 k)∧V.cell? ⟨t,12,none⟩=some (.int .i64 z)∧V.cell? ⟨t,13,none⟩=some (.int .i64 h)∧V.cell? ⟨t,14,none⟩=some (.int .i64 d)∧V.cell? ⟨t,15,none⟩=some (.string x)∧V.cell? ⟨t,16,none⟩=some (.slice A n c)∧V.cell? ⟨t,17,none⟩=some (.bool en)):=hid ⟨hat 0 _ (by decide) rfl,hat 1 _ (by decide) rfl,hat 2 _ (by decide) rfl,hat 3 _ (by decide) rfl,hat 4 _ (by decide) rfl,hat 5 _ (by decide) rfl,hat 6 _ (by decide) rfl,hat 7 _ (by decide) rfl,hat 8 _ (by decide) rfl⟩;have HTh:Hid (V.there t 0 25):=hid (hT1.there (by omega));have HF:Hid (Tk (V.setCells t 0 (ended mk e k z h d x A n c en)) t (ended mk e k z h d x A n c en)∧lru.Tn (Me t) w (V.setCells t 0 (ended mk e k z h d x A n c en))):=hid ⟨by
   have h3:=hT1.put 0 (ended mk e k z h d x A n c en) (by rw [hl];exact Nat.le_refl 25);rw [List.take_zero,List.nil_append,List.drop_eq_nil_of_le (by rw [hl];exact Nat.le_refl 25),List.append_nil] at h3;exact h3,tal.tn_setCells (S:=Me t) (show Me t t from rfl) _ _ _ (by rw [hV];exact (lru.Tn.refl _ _).drew)⟩
 have HV:=hid hV;unfold ended at HF ⊢;clear hV hT1 hat hT h9 hl;go_enter func187,ntmps187
 go_upto_region 1 with fail
 refine held.wpT_start (S:=fun w'=>w'.cell? ⟨t,9,none⟩=some (.bool mk)∧w'.cell? ⟨t,10,none⟩=some (.int .i64 e)∧w'.cell? ⟨t,11,none⟩=some (.int .i64 k)∧w'.cell? ⟨t,12,none⟩=some (.int .i64 z)∧w'.cell? ⟨t,13,none⟩=some (.int .i64 h)∧w'.cell? ⟨t,14,none⟩=some (.int .i64 d)∧w'.cell? ⟨t,15,none⟩=some (.string x)∧w'.cell? ⟨t,16,none⟩=some (.slice A n c)∧w'.cell? ⟨t,17,none⟩=some (.bool en)) (T:=fun k=>k==11) (by kernel_rfl) ?_;rw [←HV.out];clear HV;refine stp.tk 0 3 ?_;refine stp.tk 1 4 ?_;refine stp.tk 2 5 ?_;refine stp.tk 3 6 ?_;refine stp.ld 4 7 (HCV.out) ?_;refine stp.tk 5 8 ?_;refine stp.tk 6 9 ?_;refine stp.tk 7 10 ?_;refine stp.ld 8 11 (HCV.out) ?_;refine stp.tk 9 12 ?_;refine stp.tk 10 13 ?_;refine held.wpT_one (i:=11) (by kernel_rfl) rfl (fun Kc hK=>?_);rw [if_pos (by kernel_rfl)];refine wp_store_mid 206 _ _ rfl t 0 _ rfl rfl HTh.out (by kernel_rfl) (by simp [Value.oneCell']) ?_;refine hK.out _ _ (fun h=>absurd h (by decide)) ?_;clear hK;try simp only
 refine held.wpT_done (by kernel_rfl) ?_ _;go_wp2_with fail
 go_ret
 exact⟨rfl,HF.out⟩
theorem Jtb {t:Nat} {cs:List Value} (hl:cs.length=25) (e k z h d:Int) (x:ByteArray) (A:Option Addr) (n c:Nat) (en:Bool) (w:World) (hT:Tk w t cs):
  Calls prog 157 #[.pointer (some ⟨t,0,none⟩),.agg #[.int .i64 e,.int .i64 k,.int .i64 z,.int .i64 h,.int .i64 d,.string x,.slice A n c,.bool en]] w fun e' w'=>e'= .returned (.bool true)∧Tk w' t (ended true e k z h d x A n c en)∧lru.Tn (Me t) w w':=by
 obtain⟨W1,hW1⟩:=words.nm (w.alloc (.cells #[.int .i64 e,.int .i64 k,.int .i64 z,.int .i64 h,.int .i64 d,.string x,.slice A n c,.bool en] 57));obtain⟨hx,hb1⟩:=stp.new hW1;obtain⟨b,hb⟩:=words.nm (w.heap.size);rw [←hb] at hx;have HG:=hid hb;clear hb;obtain⟨c0,c1,c2,c3,c4,c5,c6,c7⟩:=stp.cs8 hx;have HC:=hid (Jp8 hl e k z h d x A n c en W1 (hT.later hb1));have HEn:Hid (∀w',Tk w' t (cs.take 9++[Value.bool true,.int .i64 e,.int .i64 k,.int .i64 z,.int .i64 h,.int .i64 d,.string x,.slice A n c,.bool en]++cs.drop 18)→Calls prog 187 #[.pointer (some ⟨t,0,none⟩)] w' fun e' w''=>e'= .returned (.bool true)∧Tk w'' t (ended true e k z h d x A n c en)∧lru.Tn (Me t) w' w''):=hid fun w' h'=>Jxb (by simp;omega) true e k z h d x A n c en w' h' (by
   have hl9:(cs.take 9).length=9:=by simp;omega
   rw [List.append_assoc,List.drop_append,hl9,List.drop_eq_nil_of_le (by omega)];simp)
 have HB1:=hid hb1;have HW:=hid hW1.symm;clear hx hb1 hW1 hT hl;go_enter func157,ntmps157
 go_upto_region 1 with fail
 rw [HW.out];simp only [←HG.out];clear HW;go_wp2_with fail
 refine HC.out.mono ?_;rintro e' w2 ⟨rfl,h2,t2⟩;have HE2:=hid (HEn.out w2 h2);have HT2:=hid t2;clear h2 t2 HEn HC c0 c1 c2 c3 c4 c5 c6 c7;go_wp2_with fail
 refine HE2.out.mono ?_;rintro e' w3 ⟨rfl,h3,t3⟩;have HF:=hid (And.intro h3 (((lru.Tn.of_below HB1.out (Me t)).trans HT2.out).trans t3));clear h3 t3 HE2;go_wp2_with fail
 go_ret
 exact⟨rfl,HF.out⟩

def newT (v t:Nat) (k:Int) (p:ByteArray) (o n i:Int) (g:ByteArray) (id:Int):List Value:=[.pointer (some ⟨v,0,none⟩),.int .i64 k,.string p,.int .i64 o,.int .i64 n,.int .i64 i,.string g,.int .i64 id,.func (.func 123) #[.pointer (some ⟨t,0,none⟩)] #[],.bool false,.int .i64 0,.int .i64 0,.int .i64 0,.int .i64 0,.int .i64 0,.string ⟨#[]⟩,.slice none 0 0,.bool false,.pointer none,.string ⟨#[]⟩,.slice none 0 0,.slice none 0 0,.int .i64 0,.int .i64 0,.pointer none]
theorem Jvb (v:Nat) (k:Int) (p:ByteArray) (o n i:Int) (g:ByteArray) (id:Int) (w:World):
  Calls prog 80 #[.pointer (some ⟨v,0,none⟩),.agg #[.int .i64 k,.string p,.int .i64 o,.int .i64 n,.int .i64 i,.string g],.int .i64 id] w fun e w'=>(∃t,e= .returned (.pointer (some ⟨t,0,none⟩))∧w.heap.size≤t∧Tk w' t (newT v t k p o n i g id))∧Below w.heap.size w w':=by
 obtain⟨W1,hW1⟩:=words.nm (w.alloc (.cells #[.int .i64 k,.string p,.int .i64 o,.int .i64 n,.int .i64 i,.string g] 55));obtain⟨hx,hb1⟩:=stp.new hW1;obtain⟨b,hb⟩:=words.nm (w.heap.size);rw [←hb] at hx;have HG:=hid hb;clear hb;obtain⟨c0,c1,c2,c3,c4,c5⟩:=stp.cs6 hx;obtain⟨W2,hW2⟩:=words.nm (W1.alloc (.cells #[.pointer (some ⟨v,0,none⟩),.int .i64 k,.string p,.int .i64 o,.int .i64 n,.int .i64 i,.string g,.int .i64 id,.nilFunc,.bool false,.int .i64 0,.int .i64 0,.int .i64 0,.int .i64 0,.int .i64 0,.string ⟨#[]⟩,.slice none 0 0,.bool false,.pointer none,.string ⟨#[]⟩,.slice none 0 0,.slice none 0 0,.int .i64 0,.int .i64 0,.pointer none] 206));obtain⟨hx2,hb2⟩:=stp.new hW2;obtain⟨t,ht⟩:=words.nm (W1.heap.size);rw [←ht] at hx2;have y8:W2.cell? ⟨t,8,none⟩=some .nilFunc:=Jaa hx2 8;have z8:=Jab hx2 8;obtain⟨W3,hW3⟩:=words.nm (W2.setCell ⟨t,8,none⟩ (.func (.func 123) #[.pointer (some ⟨t,0,none⟩)] #[]));have HF:Hid ((w.heap.size≤t∧Tk W3 t (newT v t k p o n i g id))∧Below w.heap.size w W3):=hid ⟨⟨by rw [ht];exact hb1.size,by
   rw [hW3];exact Tk.one (cs:=[.pointer (some ⟨v,0,none⟩),.int .i64 k,.string p,.int .i64 o,.int .i64 n,.int .i64 i,.string g,.int .i64 id,.nilFunc,.bool false,.int .i64 0,.int .i64 0,.int .i64 0,.int .i64 0,.int .i64 0,.string ⟨#[]⟩,.slice none 0 0,.bool false,.pointer none,.string ⟨#[]⟩,.slice none 0 0,.slice none 0 0,.int .i64 0,.int .i64 0,.pointer none]) hx2 8 _ (show 8<25 by decide)⟩,by
   rw [hW3];exact (hb1.trans (hb2.mono hb1.size)).setCell (p:=⟨t,8,none⟩) (by rw [ht];exact hb1.size) _⟩
 have hst:(store ⟨t,8,none⟩ (.func (.func 123) #[.pointer (some ⟨t,0,none⟩)] #[])).run prog W2= .ok () W3:=by rw [run_store _ _ _ _ _ rfl,hW3];rw [y8];simp only [z8];rfl
 have HT:=hid ht;have HW:=hid hW1.symm;have HW2:=hid hW2.symm;have HW3:=hid hW3.symm;clear hx hb1 hW1 hx2 hb2 hW2 hW3 ht;have hmf:∀(fn:Fn) (first cap:Array Value) (w:World),(Instr.makeFunc fn first cap).run prog w= .ok (.func fn first cap) w:=fun _ _ _ _=>rfl;go_enter func80,ntmps80
 go_upto_region 1 with fail
 rw [HW.out];simp only [←HG.out];clear HW;go_upto_region 4 with fail
 rw [HW2.out];simp only [←HT.out];clear HW2 c0 c1 c2 c3 c4 c5;go_upto_region 5 with fail
 clear HW3 y8 z8 hmf hst;go_wp2_with fail
 go_ret
 exact⟨⟨t,rfl,HF.out.1⟩,HF.out.2⟩
theorem Jk2 {B s tt m:Nat} {A:Option Addr} {c:Nat} {L:List (Nat×Int)} {ad ep r n:Int} {C:cur.Cs} {w:World} (v t:Nat) (p:ByteArray) (o N id:Int) (img:ByteArray) (tid:Int) (h:tal.Sp B s tt m A c L ad ep r n C w) (hv:w.cell? ⟨v,0,none⟩=some (.pointer (some ⟨s,0,none⟩))) (hT:Tk w t (newT v t 7 p o N id img tid)) (hbad:tal.badB 7 o N=false) (hx:mpi.Fits id) (hno:cur.valC C id=none):
  Calls prog 123 #[.pointer (some ⟨t,0,none⟩)] w fun e' w'=>e'= .returned (.bool true)∧Tk w' t (ended true 9 0 0 0 0 ⟨#[]⟩ none 0 0 false)∧lru.Tn (Me t) w w':=by
 have hvlt:v<w.heap.size:=World.block_lt_of_cell? w _ hv;have HC:Hid (∀w',Below w.heap.size w w'→w'.cell? ⟨t,0,none⟩=some (.pointer (some ⟨v,0,none⟩))∧w'.cell? ⟨v,0,none⟩=some (.pointer (some ⟨s,0,none⟩))∧w'.cell? ⟨t,1,none⟩=some (.int .i64 7)∧w'.cell? ⟨t,2,none⟩=some (.string p)∧w'.cell? ⟨t,3,none⟩=some (.int .i64 o)∧w'.cell? ⟨t,4,none⟩=some (.int .i64 N)∧w'.cell? ⟨t,5,none⟩=some (.int .i64 id)∧w'.cell? ⟨t,6,none⟩=some (.string img)):=hid fun w' hb=>⟨(hT.later hb).at rfl,(hb.cell (p:=⟨v,0,none⟩) hvlt).trans hv,(hT.later hb).at rfl,(hT.later hb).at rfl,(hT.later hb).at rfl,(hT.later hb).at rfl,(hT.later hb).at rfl,(hT.later hb).at rfl⟩
 have HCk:=hid (show Calls prog 156 #[.agg #[.int .i64 7,.string p,.int .i64 o,.int .i64 N,.int .i64 id,.string img]] w fun e w''=>e= .returned (.int .i64 0)∧Below w.heap.size w w'' from (tal.chk_any 7 p o N id img w).mono fun e w'' ⟨h1,h2⟩=>⟨by rw [h1];unfold tal.chkI;rw [hbad];rfl,h2⟩);have HDo:Hid (∀w',Below w.heap.size w w'→Calls prog 158 #[.pointer (some ⟨s,0,none⟩),.agg #[.int .i64 7,.string p,.int .i64 o,.int .i64 N,.int .i64 id,.string img]] w' fun e w''=>e= .returned (.agg #[.int .i64 9,.int .i64 0,.int .i64 0,.int .i64 0,.int .i64 0,.string ⟨#[]⟩,.slice none 0 0,.bool false])∧Below w.heap.size w w''):=hid fun w' hb=>(tal.do_close p o N id img (h.later hb) hbad hx hno).mono fun e w'' ⟨h1,h2⟩=>⟨h1,hb.trans (h2.mono hb.size)⟩
 have HT:=hid hT;clear h hv hvlt hbad hx hno hT;obtain⟨c0,d0,c1,c2,c3,c4,c5,c6⟩:=HC.out w (Below.refl _ _);go_enter func123,ntmps123
 go_wp2_with fail
 refine HCk.out.mono ?_;rintro e' w2 ⟨rfl,hb2⟩;clear c0 d0 c1 c2 c3 c4 c5 c6;obtain⟨c0,d0,c1,c2,c3,c4,c5,c6⟩:=HC.out w2 hb2;have HB2:=hid hb2;have HBd:=hid hb2.drew;clear hb2;go_upto_region 7 with fail
 clear c0 d0 c1 c2 c3 c4 c5 c6;refine held.wpT_start (S:=fun w'=>Below w.heap.size w w') (T:=fun k=>k==13) (by kernel_rfl) ?_;refine stp.tk 0 41 ?_;refine stp.tk 1 42 ?_;refine stp.tk 2 43 ?_;refine stp.tk 3 44 ?_;refine stp.ld 4 45 (HBd.out) ?_ (hv:=by intro w' h;obtain⟨c0,d0,c1,c2,c3,c4,c5,c6⟩:=HC.out w' h;clear h;go_simp;(try with_reducible rfl));refine stp.tk 5 46 ?_;refine stp.tk 6 47 ?_;refine stp.ld 7 48 (HBd.out) ?_ (hv:=by intro w' h;obtain⟨c0,d0,c1,c2,c3,c4,c5,c6⟩:=HC.out w' h;clear h;go_simp;(try with_reducible rfl));refine stp.tk 8 49 ?_;refine stp.tk 9 50 ?_;refine stp.tk 10 51 ?_;refine stp.ld 11 52 (HBd.out) ?_ (hv:=by intro w' h;obtain⟨c0,d0,c1,c2,c3,c4,c5,c6⟩:=HC.out w' h;clear h;go_simp;(try with_reducible rfl));refine held.wpT_one (i:=12) (by kernel_rfl) rfl (fun Kc hK=>?_);go_simp
 go_at_call 158
 refine (HDo.out _ HBd.out).mono ?_;rintro en w3 ⟨rfl,hb3⟩;have HB3:=hid hb3;clear hb3;refine hK.out _ _ (fun _ _=>HB3.out) ?_;clear hK;try simp only [stp.pt]
 refine held.wpT_one (i:=13) (by kernel_rfl) rfl (fun Kc hK=>?_);go_simp
 go_at_call 157
 refine (Jtb rfl 9 0 0 0 0 ⟨#[]⟩ none 0 0 false w3 (HT.out.later HB3.out)).mono ?_;rintro en w4 ⟨rfl,h4,t4⟩;have HF:=hid (And.intro h4 ((lru.Tn.of_below HB3.out (Me t)).trans t4));clear h4 t4;refine hK.out _ _ (fun h=>absurd h (by decide)) ?_;clear hK;try simp only [stp.pt]
 refine stp.tk 14 2 ?_;refine held.wpT_done (by kernel_rfl) ?_ _;go_wp2_with fail
 go_ret
 exact⟨rfl,HF.out⟩
theorem Jot {t:Nat} {cs:List Value} {w:World} {Q:Ending→World→Prop} (hT:Tk w t cs) (h8:cs[8]?=some (.func (.func 123) #[.pointer (some ⟨t,0,none⟩)] #[])) (h:Calls prog 123 #[.pointer (some ⟨t,0,none⟩)] w fun e w'=>e= .returned (.bool true)∧Q e w'):
  Calls prog 81 #[.pointer (some ⟨t,0,none⟩)] w fun e w'=>e= .returned (.bool true)∧Q e w':=by
 have c8:=hT.at h8;have HC:=hid h;have hne:∀w:World,(binOp .neq 23 (.func (.func 123) #[.pointer (some ⟨t,0,none⟩)] #[]) .nilFunc).run prog w= .ok (.bool true) w:=fun _=>by kernel_rfl
 clear h hT h8;go_enter func81,ntmps81
 go_wp2_with fail
 refine HC.out.mono ?_;rintro en w2 ⟨rfl,hq⟩;have HQ:=hid hq;clear hq;go_wp2_with fail
 go_ret
 exact⟨rfl,HQ.out⟩
theorem Jos {t:Nat} {cs:List Value} {w:World} {mk:Bool} (hT:Tk w t cs) (h9:cs[9]?=some (.bool mk)):Calls prog 82 #[.pointer (some ⟨t,0,none⟩)] w fun e w'=>e= .returned (.bool mk)∧w=w':=by
 have c9:=hT.at h9;clear hT h9;go_enter func82,ntmps82
 go_wp2_with fail
 go_ret
 exact⟨rfl,rfl⟩
theorem Jng {t:Nat} {cs:List Value} {w:World} (hT:Tk w t cs) (h8:cs[8]?=some .nilFunc):Calls prog 83 #[.pointer (some ⟨t,0,none⟩)] w fun e w'=>e= .returned (.bool true)∧w=w':=by
 have c8:=hT.at h8;have heq:∀w:World,(binOp .eql 23 .nilFunc .nilFunc).run prog w= .ok (.bool true) w:=fun _=>by kernel_rfl
 clear hT h8;go_enter func83,ntmps83
 go_wp2_with fail
 go_ret
 exact⟨rfl,rfl⟩
theorem Jek (n c:Nat) (w:World):Calls prog 88 #[.slice none n c] w fun e w'=>e= .returned (.slice none 0 0)∧w=w':=by
 have heq:=fun wx=>Lib.run_eql_slice_nil (P:=prog) wx 27 9 none n c 0 0 underlying27;go_enter func88,ntmps88
 go_wp2_with fail
 go_ret
 exact⟨rfl,rfl⟩
theorem Jop {t:Nat} (mk:Bool) (e k z h d:Int) (x:ByteArray) (en:Bool) (w:World) (hT:Tk w t (ended mk e k z h d x none 0 0 en)):
  Calls prog 124 #[.pointer (some ⟨t,0,none⟩)] w fun e' w'=>e'= .returned (.agg #[.int .i64 e,.int .i64 k,.int .i64 z,.int .i64 h,.int .i64 d,.string x,.slice none 0 0,.bool en])∧Below w.heap.size w w':=by
 obtain⟨W1,hW1⟩:=words.nm (w.alloc (.cells #[.int .i64 0,.int .i64 0,.int .i64 0,.int .i64 0,.int .i64 0,.string ⟨#[]⟩,.slice none 0 0,.bool false] 57));obtain⟨hx,hb1⟩:=stp.new hW1;obtain⟨b,hb⟩:=words.nm (w.heap.size);rw [←hb] at hx;obtain⟨b2,hb2e⟩:=words.nm (W1.heap.size);have hne:b≠b2:=by rw [hb,hb2e];have:=lt_of_some hx;omega
 have hT1:=hT.later hb1;obtain⟨t0,t1,t2,t3,t4,t5,t6,t7⟩:W1.cell? ⟨t,10,none⟩=some (.int .i64 e)∧W1.cell? ⟨t,11,none⟩=some (.int .i64 k)∧W1.cell? ⟨t,12,none⟩=some (.int .i64 z)∧W1.cell? ⟨t,13,none⟩=some (.int .i64 h)∧W1.cell? ⟨t,14,none⟩=some (.int .i64 d)∧W1.cell? ⟨t,15,none⟩=some (.string x)∧W1.cell? ⟨t,16,none⟩=some (.slice none 0 0)∧W1.cell? ⟨t,17,none⟩=some (.bool en):=⟨hT1.at rfl,hT1.at rfl,hT1.at rfl,hT1.at rfl,hT1.at rfl,hT1.at rfl,hT1.at rfl,hT1.at rfl⟩
 have HD:=hid (Jng hT1 rfl);obtain⟨W3,hW3⟩:=words.nm (W1.alloc (.cells #[.int .i64 e,.int .i64 k,.int .i64 z,.int .i64 h,.int .i64 d,.string x,.slice none 0 0,.bool en] 57));obtain⟨hx3,hb13⟩:=stp.new hW3;rw [←hb2e] at hx3;have hy3:=stp.old hb13 hx;have hb3:=hb1.trans (hb13.mono hb1.size);obtain⟨k0,k1,k2,k3,k4,k5,k6,k7⟩:=stp.cs8 hx3;have f6:=Jab hx3 6;obtain⟨W4,hW4⟩:=words.nm (W3.setCell ⟨b2,6,none⟩ (.slice none 0 0));have hx4:W4.heap[b2]?=some (.cells #[.int .i64 e,.int .i64 k,.int .i64 z,.int .i64 h,.int .i64 d,.string x,.slice none 0 0,.bool en] 57 (0,0)):=by rw [hW4];exact stp.put (cs:=[.int .i64 e,.int .i64 k,.int .i64 z,.int .i64 h,.int .i64 d,.string x,.slice none 0 0,.bool en]) hx3 6 [.slice none 0 0] (show 6+1≤8 by decide)
 have hy4:W4.heap[b]?=some (.cells #[.int .i64 0,.int .i64 0,.int .i64 0,.int .i64 0,.int .i64 0,.string ⟨#[]⟩,.slice none 0 0,.bool false] 57 (0,0)):=by rw [hW4,heap_setCell_other _ _ _ _ hne];exact hy3
 have hb4:Below w.heap.size w W4:=by rw [hW4];exact hb3.setCell (p:=⟨b2,6,none⟩) (by rw [hb2e];exact hb1.size) _
 have HX4:=hid hx4;have HTh4:Hid (W4.there b 0 8):=hid (stp.there (cs:=[.int .i64 0,.int .i64 0,.int .i64 0,.int .i64 0,.int .i64 0,.string ⟨#[]⟩,.slice none 0 0,.bool false]) hy4 (show 0+8≤8 by decide));obtain⟨W5,hW5⟩:=words.nm (W4.setCells b 0 [.int .i64 e,.int .i64 k,.int .i64 z,.int .i64 h,.int .i64 d,.string x,.slice none 0 0,.bool en]);have hy5:W5.heap[b]?=some (.cells #[.int .i64 e,.int .i64 k,.int .i64 z,.int .i64 h,.int .i64 d,.string x,.slice none 0 0,.bool en] 57 (0,0)):=by rw [hW5];exact stp.put (cs:=[.int .i64 0,.int .i64 0,.int .i64 0,.int .i64 0,.int .i64 0,.string ⟨#[]⟩,.slice none 0 0,.bool false]) hy4 0 _ (show 0+8≤8 by decide)
 have hb5:Below w.heap.size w W5:=by rw [hW5];exact stp.below_cells (by rw [hb];exact Nat.le_refl _) _ _ _ hb4
 have HY5:=hid hy5;have HB5:=hid hb5;have HG:=hid hb;have HG2:=hid hb2e;have HCl:=hid (Jek 0 0 W3);have HW:=hid hW1.symm;have HW3:=hid hW3.symm;have HW4:=hid hW4.symm;have HW5:=hid hW5.symm;clear hW1 hW3 hW4 hW5 hb hb2e hne hx hb1 hx3 hb13 hy3 hb3 hx4 hy4 hb4 hy5 hb5 hT1 hT;go_enter func124,ntmps124
 go_upto_region 1 with fail
 rw [HW.out];simp only [←HG.out];clear HW;go_wp2_with fail
 refine HD.out.mono ?_;rintro e' w1 ⟨rfl,rfl⟩;go_upto_region 4 with (refine stp.wl_put (vs:=[.int .i64 e,.int .i64 k,.int .i64 z,.int .i64 h,.int .i64 d,.string x,.slice none 0 0,.bool en]) (zs:=[.int .i64 0,.int .i64 0,.int .i64 0,.int .i64 0,.int .i64 0,.string ⟨#[]⟩,.slice none 0 0,.bool false]) rfl rfl rfl rfl rfl rfl (by kernel_rfl) (by simp [Value.oneCell']) ?_)
 rw [HW3.out];simp only [←HG2.out];clear t0 t1 t2 t3 t4 t5 t6 t7;go_wp2_with fail
 refine HCl.out.mono ?_;rintro e' w1 ⟨rfl,rfl⟩;go_upto_region 5 with fail
 rw [HW4.out];clear k0 k1 k2 k3 k4 k5 k6 k7 f6;obtain⟨k0,k1,k2,k3,k4,k5,k6,k7⟩:=stp.cs8 HX4.out;go_wp2_with (refine wpList_store_mid rfl 57 _ _ rfl b 0 _ rfl rfl HTh4.out (by kernel_rfl) (by simp [Value.oneCell']) ?_;rw [HW5.out])
 obtain⟨p0,p1,p2,p3,p4,p5,p6,p7⟩:=stp.cs8 HY5.out;exact bodyPost_ret (v:= .agg #[.int .i64 e,.int .i64 k,.int .i64 z,.int .i64 h,.int .i64 d,.string x,.slice none 0 0,.bool en]) (by simp [results,results124,go_sem,p0,p1,p2,p3,p4,p5,p6,p7]) rfl ⟨rfl,HB5.out⟩
end Go.Proofs.YtekekhgjobahaaaGreatDoor.rep
