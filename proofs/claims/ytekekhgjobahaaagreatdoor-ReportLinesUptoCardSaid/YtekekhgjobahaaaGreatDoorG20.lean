import Derived.Test.YtekekhgjobahaaaGreatDoorG17
import Derived.Test.YtekekhgjobahaaaGreatDoorG18
import Derived.Test.YtekekhgjobahaaaGreatDoorG19
import Derived.Deep.DeepCutAuto
set_option maxHeartbeats 1600000
set_option maxRecDepth 100000
open Go.Lib (hid)
open Go.Proofs.Tryz
namespace Go.Proofs.YtekekhgjobahaaaGreatDoor.tre
open Go.RowKit words ext name

theorem Jdb (a b:UInt8) (x y:List UInt8):Op.bytesLess (a::x) (b::y)=(decide (a<b)||(a==b&&Op.bytesLess x y)):=rfl
theorem Jb0 (x:List UInt8):Op.bytesLess x []=false:=by cases x<;>rfl
theorem drop_byte (s:ByteArray) (k:Nat) (h:k<s.size):s.toList.drop k=s[k]::s.toList.drop (k+1):=by
 rw [name.to_list];have:s[k]=s.data.toList[k]'(by rw [name.size_list];exact h):=rfl;rw [this];exact List.drop_eq_getElem_cons _
theorem Jg1 (a b:ByteArray) (w:World) (ha:a.size≤140737488355328):
  Calls prog 135 #[.string a,.string b] w fun e w'=>e= .returned (.bool (lessB a b))∧∃n,w.drewN n=w':=by
 go_enter func135,ntmps135
 go_wp2_with fail
 go_loopw [5] (fun c wr=>∃(k n:Nat),k≤a.size∧k≤b.size∧c= .int .i64 k∧Hid (lessB a b=Op.bytesLess (a.toList.drop k) (b.toList.drop k))∧wr=w.drewN n)
  (fun c _=>a.size - (intOf c).toNat)
 case atStart=>exact⟨0,0,Nat.zero_le _,Nat.zero_le _,rfl,hid rfl,rfl⟩
 case round=>
  obtain⟨k,nd,hk,hk2,rfl,HL,rfl⟩:=hrel;by_cases h1:k<a.size
  ·by_cases h2:k<b.size
   ·have i0:(0:Int)≤(k:Int):=by omega
    have i1:(k:Int)<(a.size:Int):=by omega
    have i2:(k:Int)<(b.size:Int):=by omega
    have HD:=hid (show lessB a b=(decide (a[k]<b[k])||(a[k]==b[k]&&Op.bytesLess (a.toList.drop (k+1)) (b.toList.drop (k+1)))) by rw [HL.out,drop_byte a k h1,drop_byte b k h2,Jdb]);by_cases he:a[k]=b[k]
    ·have g1:((a[k].toNat:Int) !=(b[k].toNat:Int))=false:=by rw [he];simp
     have HN:=hid (show lessB a b=Op.bytesLess (a.toList.drop (k+1)) (b.toList.drop (k+1)) by rw [HD.out,he];simp);have HE:=hid he;clear he;go_wp2_with fail
     go_quiet (fail)
     go_wp2_with fail
     go_roundw
     case rel=>exact⟨k+1,_,by omega,by omega,by go_num,HN,rfl⟩
     case measure=>simp [intOf];omega
    ·have g1:((a[k].toNat:Int) !=(b[k].toNat:Int))=true:=by
      rw [bne_iff_ne];intro e;exact he (UInt8.toNat_inj.1 (by simpa using Int.ofNat_inj.1 e))
     have HF:=hid (show decide (a[k].toNat<b[k].toNat)=lessB a b by
       rw [HD.out,show (a[k]==b[k])=false by rw [beq_eq_false_iff_ne];exact he,Bool.false_and,Bool.or_false];rfl)
     have HE:=hid he;clear he;go_wp2_with fail
     go_quiet (fail)
     go_wp2_with fail
     go_quiet (fail)
     go_wp2_with fail
     go_ret
     exact⟨Jas HF.out,by rw [World.drewN_drewN];exact Jkn⟩
   ·have HF:=hid (show false=lessB a b by rw [HL.out,List.drop_of_length_le (l:=b.toList) (by rw [name.to_list,name.size_list];omega),Jb0])
    have g:¬(a.size:Int)<(b.size:Int):=by omega
    have g3:¬a.size<b.size:=by omega
    go_wp2_with fail
    go_ret
    exact⟨Jas HF.out,nd,rfl⟩
  ·obtain rfl:k=a.size:=by omega
   by_cases h2:a.size<b.size
   ·have HF:=hid (show true=lessB a b by
      rw [HL.out,List.drop_of_length_le (l:=a.toList) (by rw [name.to_list,name.size_list];omega),drop_byte b _ h2];rfl)
    go_wp2_with fail
    go_ret
    exact⟨Jas HF.out,nd,rfl⟩
   ·have HF:=hid (show false=lessB a b by rw [HL.out,List.drop_of_length_le (l:=b.toList) (by rw [name.to_list,name.size_list];omega),Jb0])
    go_wp2_with fail
    go_ret
    exact⟨Jas HF.out,nd,rfl⟩




theorem Jau {a w:World} {p:Addr} {u:Value} (h:a.cell? p=some u) (hb:Below a.heap.size a w):w.cell? p=some u:=
 (hb.cell (World.block_lt_of_cell? a _ h)).trans h


theorem Jkq (w:World) (o o':Obj):((w.alloc o).alloc o').heap[w.heap.size+1]?=some o':=by
 have h:=heap_alloc_new (w.alloc o) o';rw [show (w.alloc o).heap.size=w.heap.size+1 by simp] at h;exact h




mutual
theorem Jix:∀(n:Nd) (d c:Int),d+(depth n:Int)≤65536→(eachS stE n d c).1=true
 | .mk K O N I S E T,d,c,hd=>by
  rw [Jgk] at hd;have hd':d+(depthL I:Int)≤65536:=hd;have hst:stE (.mk K O N I S E T) d c=(true,c):=by
   unfold stE;rw [decide_eq_true (by omega)]
  rw [Jgl,hst,if_pos rfl];exact Jdc I (d+1) c (by omega)
theorem Jdc:∀(L:List Nd) (d c:Int),d+(depthL L:Int)≤65537→(eachL stE L d c).1=true
 |[],d,c,_=>by rw [Jfd]
 |x::L,d,c,hd=>by
  rw [Jby] at hd;rw [Jdi,if_pos (Jix x d c (by omega))];exact Jdc L d _ (by omega)
end

def pr (x:Ex):Int×ByteArray:=(x.O,x.D)

structure Two (w W1:World) (n:Nd) (r:Raw) (m:Nd) (q:Raw):Prop where
 x:Box W1 w.heap.size n r
 y:Box W1 (w.heap.size+1) m q
 b:Below w.heap.size w W1
theorem Two.new (w:World) (n:Nd) (r:Raw) (m:Nd) (q:Raw):Two w ((w.alloc (.cells (rawCells n r) 46)).alloc (.cells (rawCells m q) 46)) n r m q:=
 ⟨(Box.new w n r).alloc _,Jkq _ _ _,((Below.refl _ _).alloc (Nat.le_refl _) _).alloc (by simp) _⟩
theorem Two.later {w W1 w2:World} {n m:Nd} {r q:Raw} (h:Two w W1 n r m q) (hb:Below W1.heap.size W1 w2):Two w w2 n r m q:=
 ⟨h.x.below hb,h.y.below hb,h.b.trans (hb.mono h.b.size)⟩


end Go.Proofs.YtekekhgjobahaaaGreatDoor.tre
