import Derived.Test.YtkjpgheealfedaaGreatDoorRows
import Derived.Test.YtkjpgheealfedaaGreatDoorJW3
import Derived.ProofKit
import Derived.OpenShut
import Derived.Deep.Slices
set_option maxHeartbeats 1600000
set_option maxRecDepth 100000
open Go.Lib (hid)
open Go.Proofs.Tryz
namespace Go.Proofs.YtkjpgheealfedaaGreatDoor.heap
open Go.ChangeShapes Go.WideShapes Go.RowKit words

theorem cellsStr:Tryz.prog.cellsOf 9=1:=by kernel_rfl
theorem cellsStrs:Tryz.prog.cellsOf 47=1:=by kernel_rfl
theorem bytesStr:Tryz.prog.bytesOf 9=16:=by kernel_rfl
theorem add_plain (b off i:Nat):(⟨b,off,none⟩:Addr).add i=⟨b,off+i,none⟩:=by unfold Addr.add;split<;>simp_all
theorem Jcd (s:ByteArray):s.data.toList.length=s.size:=by rw [Array.length_toList];rfl
def Sized {H:Type} (t:TypeId) (d:DataW H):Prop:=∀n∈d.weights prog t,n≤reachBytes
theorem Sized.of_each {H:Type} {ts:List TypeId} {ds:List (DataW H)} (h:(DataW.weightsEach prog ts ds).all (·≤reachBytes)=true) {j:Nat} {t:TypeId} {d:DataW H} (ht:ts[j]?=some t) (hd:ds[j]?=some d):Sized t d:=fun n hn=>by
 have:=List.all_eq_true.1 h _ (DataW.weights_mem_each ht hd n hn);simpa using this
section
variable {H:Type} {enc:TypeId×Value→H} {W:World} {base:Nat} {spare:Nat→Bool} {held:Bool}
theorem Jau {P:Program} {e:TypeId}:∀{l:List (DataW H)} {d:DataW H},d∈l→∀n∈d.weights P e,n∈DataW.weightsAll P e l
 |[],_,h,_,_=>by cases h
 |x::l,d,h,n,hn=>by
  simp only [DataW.weightsAll,List.mem_append];rcases List.mem_cons.1 h with rfl |h
  ·exact .inl hn
  ·exact .inr (Jau h n hn)
theorem Ja9 {t e:TypeId} (hu:Tryz.prog.underlying t=some (.slice e)) {fuel:Nat} {a0:Option Addr} {len cap:Nat} {x:DataW H×List MemPlace} (h:DataW.trod enc prog W base spare held fuel t [.slice a0 len cap]=some x) (hs:Sized t x.1):
  len*Tryz.prog.bytesOf e≤140737488355328∧len≤cap∧cap≤maxLen∧(a0=none→len=0∧cap=0):=by
 rcases DataW.trod_slice hu h with⟨hc,_⟩ |⟨a,l,c,elems,rest,n,_,hc,hx,_,hl,hm,hlen,_⟩
 ·simp at hc
  obtain⟨rfl,rfl,rfl⟩:=hc;exact⟨by omega,Nat.le_refl _,by unfold maxLen;omega,fun _=>⟨rfl,rfl⟩⟩
 ·simp at hc
  obtain⟨rfl,rfl,rfl⟩:=hc;subst hx;have hw:=hs _ (by
    simp only [DataW.weights,hu];exact List.mem_cons_self ..)
  rw [List.length_map,List.length_map,hlen] at hw;have hr:=reachBytes_lt;have:len*Tryz.prog.bytesOf e≤(len+rest.length)*Tryz.prog.bytesOf e:=Nat.mul_le_mul_right _ (Nat.le_add_right _ _);exact⟨by omega,hl,hm,fun h=>by cases h⟩
theorem Jds {s:ByteArray} {x:DataW H×List MemPlace} (hx:x.1= .lit (.string s.data.toList)) (hs:Sized 9 x.1):s.size≤140737488355328:=by
 have:=hs s.data.toList.length (by rw [hx];simp [DataW.weights]);rw [Jcd] at this;have hr:=reachBytes_lt;omega
theorem Jc6 {t e:TypeId} (hu:Tryz.prog.underlying t=some (.slice e)) {fuel:Nat} {a:Addr} {len cap:Nat} {x:DataW H×List MemPlace} (h:DataW.trod enc prog W base spare held fuel t [.slice (some a) len cap]=some x) (hs:Sized t x.1):
  ∃n,fuel=n+1∧∀i,i<len→∃cs d,W.cells? base (a.add (i*Tryz.prog.cellsOf e)) (Tryz.prog.cellsOf e)=some cs∧DataW.trod enc prog W base spare held n e cs=some d∧Sized e d.1:=by
 rcases DataW.trod_slice hu h with⟨hc,_⟩ |⟨a',l,c,elems,rest,n,hfu,hc,hx,_,_,_,hlen,hel,_⟩
 ·simp at hc
 ·simp at hc
  obtain⟨rfl,rfl,rfl⟩:=hc;subst hx;refine⟨n,hfu,fun i hi=>?_⟩;have key:=hel i hi;rw [List.getElem?_eq_getElem (by omega)] at key;obtain⟨cs,h1,h2⟩:=Option.bind_eq_some_iff.1 key;refine⟨cs,_,h1,h2,fun k hk=>hs k ?_⟩;simp only [DataW.weights,hu];exact List.mem_cons_of_mem _ (List.mem_append_left _ (Jau (List.mem_map.2 ⟨_,List.getElem_mem (by omega),rfl⟩) k hk))
theorem Jd5 {t e:TypeId} (hu:Tryz.prog.underlying t=some (.slice e)) {fuel:Nat} {c:Value} {x:DataW H×List MemPlace} (h:DataW.trod enc prog W base spare held fuel t [c]=some x):∃a len cap,c= .slice a len cap:=by
 rcases DataW.trod_slice hu h with⟨hc,_⟩ |⟨a,l,c',_,_,_,_,hc,_⟩
 ·exact⟨_,_,_,by simpa using hc⟩
 ·exact⟨_,_,_,by simpa using hc⟩
instance:Inhabited (Option Addr×Nat×List ByteArray):=⟨none,0,[]⟩
end
end Go.Proofs.YtkjpgheealfedaaGreatDoor.heap

namespace Go.Proofs.YtkjpgheealfedaaGreatDoor.heap
open Go.RowKit words

theorem drop_byte (s:ByteArray) (k:Nat) (h:k<s.size):s.toList.drop k=s[k]::s.toList.drop (k+1):=by
 rw [ByteArray.toList_eq];have:s[k]=s.data.toList[k]'(by rw [Jcd];exact h):=rfl;rw [this];exact List.drop_eq_getElem_cons _
theorem Jbu {w:World} {a b:Nat}:∃n,w.drewN n=(w.drewN a).drewN b:=⟨a+b,(World.drewN_drewN ..).symm⟩
theorem Jo7 {w:World} {a b c:Nat}:∃n,w.drewN n=((w.drewN a).drewN b).drewN c:=⟨a+b+c,by rw [World.drewN_drewN,World.drewN_drewN,Nat.add_assoc]⟩
theorem Jeh {P:Program} {f:FuncId} {args:Array Value} {w:World} {n:Nat} {v:Value}
  (h:Calls P f args (w.drewN n) fun e w'=>e= .returned v∧∃q,(w.drewN n).drewN q=w'):Calls P f args (w.drewN n) fun e w'=>e= .returned v∧∃m,w'=w.drewN m:=
 h.mono fun _ _ ⟨he,q,hm⟩=>⟨he,n+q,by rw [←hm,World.drewN_drewN]⟩
theorem rless_any (a b:ByteArray) (w:World) (ha:a.size≤140737488355328):
  Calls prog 107 #[.string a,.string b] w fun e w'=>e= .returned (.bool (ltB a b))∧∃n,w.drewN n=w':=by
 go_enter func107,ntmps107
 go_wp2_with fail
 go_loopw [5] (fun c wr=>∃(k n:Nat),k≤a.size∧k≤b.size∧c= .int .i64 k∧Hid (ltB a b=Op.bytesLess (a.toList.drop k) (b.toList.drop k))∧wr=w.drewN n)
  (fun c _=>a.size - (intOf c).toNat)
 case atStart=>exact⟨0,0,Nat.zero_le _,Nat.zero_le _,rfl,hid rfl,rfl⟩
 case round=>
  obtain⟨k,nd,hk,hk2,rfl,HL,rfl⟩:=hrel;by_cases h1:k<a.size
  ·by_cases h2:k<b.size
   ·have i0:(0:Int)≤(k:Int):=by omega
    have i1:(k:Int)<(a.size:Int):=by omega
    have i2:(k:Int)<(b.size:Int):=by omega
    have HD:=hid (show ltB a b=(decide (a[k]<b[k])||(a[k]==b[k]&&Op.bytesLess (a.toList.drop (k+1)) (b.toList.drop (k+1)))) by rw [HL.out,drop_byte a k h1,drop_byte b k h2,Jbz]);by_cases he:a[k]=b[k]
    ·have g1:((a[k].toNat:Int) !=(b[k].toNat:Int))=false:=by rw [he];simp
     have HN:=hid (show ltB a b=Op.bytesLess (a.toList.drop (k+1)) (b.toList.drop (k+1)) by rw [HD.out,he];simp);have HE:=hid he;clear he;go_wp2_with fail
     go_quiet (fail)
     go_wp2_with fail
     go_roundw
     case rel=>exact⟨k+1,_,by omega,by omega,by go_num,HN,rfl⟩
     case measure=>simp [intOf];omega
    ·have g1:((a[k].toNat:Int) !=(b[k].toNat:Int))=true:=by
      rw [bne_iff_ne];intro e;exact he (UInt8.toNat_inj.1 (by simpa using Int.ofNat_inj.1 e))
     have HF:=hid (show decide (a[k].toNat<b[k].toNat)=ltB a b by
       rw [HD.out,show (a[k]==b[k])=false by rw [beq_eq_false_iff_ne];exact he,Bool.false_and,Bool.or_false];rfl)
     have HE:=hid he;clear he;go_wp2_with fail
     go_quiet (fail)
     go_wp2_with fail
     go_quiet (fail)
     go_wp2_with fail
     go_ret
     exact⟨Jac HF.out,by first |exact Jbu |exact Jo7⟩
   ·have HF:=hid (show false=ltB a b by rw [HL.out,List.drop_of_length_le (l:=b.toList) (by rw [ByteArray.toList_eq,Jcd];omega),Je3])
    have g:¬(a.size:Int)<(b.size:Int):=by omega
    have g3:¬a.size<b.size:=by omega
    go_wp2_with fail
    go_ret
    exact⟨Jac HF.out,nd,rfl⟩
  ·obtain rfl:k=a.size:=by omega
   by_cases h2:a.size<b.size
   ·have HF:=hid (show true=ltB a b by
      rw [HL.out,List.drop_of_length_le (l:=a.toList) (by rw [ByteArray.toList_eq,Jcd];omega),drop_byte b _ h2];rfl)
    go_wp2_with fail
    go_ret
    exact⟨Jac HF.out,nd,rfl⟩
   ·have HF:=hid (show false=ltB a b by rw [HL.out,List.drop_of_length_le (l:=b.toList) (by rw [ByteArray.toList_eq,Jcd];omega),Je3])
    go_wp2_with fail
    go_ret
    exact⟨Jac HF.out,nd,rfl⟩
end Go.Proofs.YtkjpgheealfedaaGreatDoor.heap
