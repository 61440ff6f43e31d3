import Derived.Test.YtcoimjbhoiipoaaGreatDoorG4
import Derived.Test.YtcoimjbhoiipoaaGreatDoorG7
import Derived.ProofKit
import Derived.OpenShut
import Derived.Deep.Slices
set_option maxRecDepth 100000
open Go.Proofs.Tryz
namespace Go.Proofs.YtcoimjbhoiipoaaGreatDoor.cal
open Go.ChangeShapes Go.WideShapes Go.RowKit words

def Sized {H:Type} (t:TypeId) (d:DataW H):Prop:=∀n∈d.weights prog t,n≤reachBytes
theorem Sized.of_each {H:Type} {ts:List TypeId} {ds:List (DataW H)} (h:(DataW.weightsEach prog ts ds).all (·≤reachBytes)=true) {j:Nat} {t:TypeId} {d:DataW H} (ht:ts[j]?=some t) (hd:ds[j]?=some d):Sized t d:=fun n hn=>by
 have:=List.all_eq_true.1 h _ (DataW.weights_mem_each ht hd n hn);simpa using this
def Txts (w:World) (B:Nat) (A:Option Addr) (Q:List ByteArray):Prop:=∀(i:Nat) x,Q[i]?=some x→(∃b off,A=some ⟨b,off,none⟩∧b<B∧w.cell? ⟨b,off+i,none⟩=some (.string x))∧x.size≤140737488355328
theorem add_plain (b o j:Nat):(⟨b,o,none⟩:Addr).add j=⟨b,o+j,none⟩:=lru.add_place b o j
section
variable {H:Type} {enc:TypeId×Value→H} {W:World} {base:Nat} {spare:Nat→Bool} {held:Bool}
theorem cellsInt:Tryz.prog.cellsOf 3=1:=by kernel_rfl
theorem cellsStr:Tryz.prog.cellsOf 9=1:=by kernel_rfl
theorem cellsBool:Tryz.prog.cellsOf 4=1:=by kernel_rfl
theorem bytesStr:Tryz.prog.bytesOf 9=16:=by kernel_rfl
theorem Jap {P:Program} {e:TypeId}:∀{l:List (DataW H)} {d:DataW H},d∈l→∀n∈d.weights P e,n∈DataW.weightsAll P e l
 |[],_,h,_,_=>by cases h
 |x::l,d,h,n,hn=>by
  simp only [DataW.weightsAll,List.mem_append];rcases List.mem_cons.1 h with rfl |h
  ·exact .inl hn
  ·exact .inr (Jap h n hn)
theorem Jay {t e:TypeId} (hu:Tryz.prog.underlying t=some (.slice e)) {fuel:Nat} {a0:Option Addr} {len cap:Nat} {x:DataW H×List MemPlace} (h:DataW.trod enc prog W base spare held fuel t [.slice a0 len cap]=some x) (hs:Sized t x.1):
  len*Tryz.prog.bytesOf e≤140737488355328∧len≤cap∧(a0=none→len=0∧cap=0):=by
 rcases DataW.trod_slice hu h with⟨hc,_⟩ |⟨a,l,c,elems,rest,n,_,hc,hx,_,hl,_,hlen,_⟩
 ·simp at hc
  obtain⟨rfl,rfl,rfl⟩:=hc;exact⟨by omega,Nat.le_refl _,fun _=>⟨rfl,rfl⟩⟩
 ·simp at hc
  obtain⟨rfl,rfl,rfl⟩:=hc;subst hx;have hw:=hs _ (by
    simp only [DataW.weights,hu];exact List.mem_cons_self ..)
  rw [List.length_map,List.length_map,hlen] at hw;have hr:=reachBytes_lt;have:len*Tryz.prog.bytesOf e≤(len+rest.length)*Tryz.prog.bytesOf e:=Nat.mul_le_mul_right _ (Nat.le_add_right _ _);exact⟨by omega,hl,fun h=>by cases h⟩
theorem Jch {s:ByteArray} {x:DataW H×List MemPlace} (hx:x.1= .lit (.string s.data.toList)) (hs:Sized 9 x.1):s.size≤140737488355328:=by
 have:=hs s.data.toList.length (by rw [hx];simp [DataW.weights]);rw [size_list] at this;have hr:=reachBytes_lt;omega
theorem Jby {t e:TypeId} (hu:Tryz.prog.underlying t=some (.slice e)) {fuel:Nat} {a:Addr} {len cap:Nat} {x:DataW H×List MemPlace} (h:DataW.trod enc prog W base spare held fuel t [.slice (some a) len cap]=some x) (hs:Sized t x.1):
  ∃n,fuel=n+1∧∀i,i<len→∃cs d,W.cells? base (a.add (i*Tryz.prog.cellsOf e)) (Tryz.prog.cellsOf e)=some cs∧DataW.trod enc prog W base spare held n e cs=some d∧Sized e d.1:=by
 rcases DataW.trod_slice hu h with⟨hc,_⟩ |⟨a',l,c,elems,rest,n,hfu,hc,hx,_,_,_,hlen,hel,_⟩
 ·simp at hc
 ·simp at hc
  obtain⟨rfl,rfl,rfl⟩:=hc;subst hx;refine⟨n,hfu,fun i hi=>?_⟩;have key:=hel i hi;rw [List.getElem?_eq_getElem (by omega)] at key;obtain⟨cs,h1,h2⟩:=Option.bind_eq_some_iff.1 key;refine⟨cs,_,h1,h2,fun k hk=>hs k ?_⟩;simp only [DataW.weights,hu];exact List.mem_cons_of_mem _ (List.mem_append_left _ (Jap (List.mem_map.2 ⟨_,List.getElem_mem (by omega),rfl⟩) k hk))
theorem Jol {fuel:Nat} {a0:Option Addr} {len cap:Nat} {x:DataW H×List MemPlace} (h:DataW.trod enc prog W base spare held fuel 25 [.slice a0 len cap]=some x) (hs:Sized 25 x.1):
  ∃Q:List ByteArray,Q.length=len∧Txts W W.heap.size a0 Q:=by
 rcases a0 with _ |a
 ·obtain⟨rfl,_⟩:=(Jay underlying25 h hs).2.2 rfl
  exact⟨[],rfl,fun i x hx=>by simp at hx⟩
 ·obtain⟨n,_,hel⟩:=Jby underlying25 h hs
  have each:∀i,i<len→∃y:ByteArray,y.size≤140737488355328∧W.cell? (a.add i)=some (.string y):=fun i hlt=>by
   obtain⟨cs,d,hcs,ht,hsd⟩:=hel i hlt;rw [cellsStr,Nat.mul_one] at hcs;obtain⟨s,rfl,hd,_⟩:=DataW.trod_string underlying9 ht;obtain⟨_,_,hat⟩:=World.cells?_some hcs;have h0:=hat 0 (by omega);have e:(a.add i).add 0=a.add i:=by simp [Addr.add]
   rw [e] at h0;exact⟨s,Jch (by rw [hd]) hsd,h0⟩
  obtain⟨f,hfl⟩:=Deep.choose_lt each;refine⟨(List.range len).map f,by simp,fun i x hx=>?_⟩;have hlt:i<len:=by
   have:=(List.getElem?_eq_some_iff.1 hx).1;simpa using this
  have hxe:x=f i:=by
   rw [List.getElem?_map,List.getElem?_range hlt] at hx;simpa using hx.symm
  subst hxe;obtain⟨b,off,spot⟩:=a;have h0:=(hfl 0 (by omega)).2;have hspot:spot=none:=by simpa [Addr.add] using World.cell?_spot h0
  subst hspot;have hcell:=(hfl i hlt).2;rw [add_plain] at hcell;exact⟨⟨b,off,rfl,World.block_lt_of_cell? W _ hcell,hcell⟩,(hfl i hlt).1⟩
theorem Jez {t e:TypeId} (hu:Tryz.prog.underlying t=some (.slice e)) {fuel:Nat} {c:Value} {x:DataW H×List MemPlace} (h:DataW.trod enc prog W base spare held fuel t [c]=some x):∃a len cap,c= .slice a len cap:=by
 rcases DataW.trod_slice hu h with⟨hc,_⟩ |⟨a,l,c',_,_,_,_,hc,_⟩
 ·exact⟨_,_,_,by simpa using hc⟩
 ·exact⟨_,_,_,by simpa using hc⟩
end
end Go.Proofs.YtcoimjbhoiipoaaGreatDoor.cal
