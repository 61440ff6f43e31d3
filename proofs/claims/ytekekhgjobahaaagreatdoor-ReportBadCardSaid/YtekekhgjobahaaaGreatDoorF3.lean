import Derived.Test.YtekekhgjobahaaaGreatDoorD0
import Derived.Test.YtekekhgjobahaaaGreatDoorRows
import Derived.Stop.LaidErr
import Derived.LaidMore
import Derived.Lay
import Derived.Test.YtekekhgjobahaaaGreatDoorA1
import Derived.ProofKit
import Derived.OpenShut
import Derived.Deep.Slices
set_option maxRecDepth 100000
open Go.Proofs.Tryz
namespace Go.Proofs.YtekekhgjobahaaaGreatDoor.cal
open Go.RowKit Go.ChangeShapes words

theorem Jiw {H:Type} {enc:TypeId×Value→H} {P:Program} {w:World} {base:Nat} {sp:Nat→Bool} {held:Bool} {fuel:Nat} {t e:TypeId} {n:Nat} {cs:List Value} {zs:List (List UInt8)} {p:List MemPlace}
  (ht:P.underlying t=some (.array n e)) (he:P.underlying e=some .string) (hce:P.cellsOf e=1) (hct:P.cellsOf t=n)
  (h:DataW.trod enc P w base sp held fuel t cs=some ((.agg (zs.map fun z=> .lit (.string z))),p)):∀(i:Nat) z,zs[i]?=some z→cs[i]?=some (.string ⟨z.toArray⟩):=by
 cases fuel with
 |zero=>simp [DataW.trod] at h
 |succ fuel=>
  simp only [DataW.trod,ht,hce,hct,Nat.mul_one] at h;split at h
  ·rename_i hl
   obtain⟨xs,hm,hx⟩:=Option.map_eq_some_iff.1 h;have hxs:xs.map (·.1)=zs.map fun z=>(DataW.lit (.string z):DataW H):=by
    have:=congrArg Prod.fst hx;simpa using this
   have hxl:xs.length=n:=by simpa using Lib.mapM_length hm
   have hzl:zs.length=n:=by
    have:=congrArg List.length hxs;simp at this;omega
   intro i z hz;have hi:i<n:=by rw [←hzl];exact (List.getElem?_eq_some_iff.1 hz).1
   obtain⟨b,hb,hf⟩:=Lib.mapM_at hm i i (by simp [hi]);obtain⟨s,hc,hbe,_⟩:=DataW.trod_string he hf;have h1:cs[i]?=some (.string s):=by
    have:=congrArg (·[0]?) hc;simpa [List.getElem?_take,List.getElem?_drop] using this
   have h2:(xs.map (·.1))[i]?=some (DataW.lit (.string s.data.toList):DataW H):=by simp [hb,hbe]
   rw [hxs] at h2;simp only [List.getElem?_map,Option.map_eq_some_iff,DataW.lit.injEq,Lit.string.injEq] at h2;obtain⟨z',hz',rfl⟩:=h2;rw [hz] at hz';injection hz' with hz';rw [h1,hz']
  ·cases h
theorem gTab:Tryz.prog.globalNamed "internal/strconv.uint64pow10" =some 2:=by kernel_rfl
theorem gSyn:Tryz.prog.globalNamed "strconv.ErrSyntax" =some 7:=by kernel_rfl
theorem gRng:Tryz.prog.globalNamed "strconv.ErrRange" =some 8:=by kernel_rfl
theorem gWds:Tryz.prog.globalNamed "socage/call.words" =some 0:=by kernel_rfl
theorem tTab:(Tryz.prog.globals[2]?).map (·.type)=some 264:=by kernel_rfl
theorem tSyn:(Tryz.prog.globals[7]?).map (·.type)=some 109:=by kernel_rfl
theorem tRng:(Tryz.prog.globals[8]?).map (·.type)=some 109:=by kernel_rfl
theorem tWds:(Tryz.prog.globals[0]?).map (·.type)=some 172:=by kernel_rfl
theorem star: "*" ++ "errors.errorString" = "*errors.errorString" :=by decide
theorem rowErr (u:TypeId) (h:Tryz.prog.typeName? 3 u=some "*errors.errorString"):u=360:=
 typeName_ptr_named (nm:= "errors.errorString") (by rw [star];kernel_rfl) (by kernel_rfl) (by decide) u (by rw [star];exact h)
theorem cE:Tryz.prog.cellsOf 362=1:=by kernel_rfl
theorem cS:Tryz.prog.cellsOf 9=1:=by kernel_rfl
theorem cU:Tryz.prog.cellsOf 214=1:=by kernel_rfl
theorem cT:Tryz.prog.cellsOf 264=20:=by kernel_rfl
theorem cW:Tryz.prog.cellsOf 172=10:=by kernel_rfl
theorem Jyu:(Rows.laid_internal_strconv_uint64pow10:DataW Unit)=Lib.tabData .u64 Lib.pow10Tab:=by kernel_rfl
theorem Jyc:(Rows.laid_socage_call_words:DataW Unit)= .agg (wds.map fun z=> .lit (.string z)):=by kernel_rfl
theorem Jyk {w:World} (hsh:w.ShapedOpen prog) (h:laidMetH prog [("math/bits.deBruijn32tab",Rows.laid_math_bits_deBruijn32tab),("math/bits.deBruijn64tab",Rows.laid_math_bits_deBruijn64tab),("internal/strconv.uint64pow10",Rows.laid_internal_strconv_uint64pow10),("unicode/utf8.acceptRanges",Rows.laid_unicode_utf8_acceptRanges),("strconv.ErrRange",Rows.laid_strconv_ErrRange),("strconv.ErrSyntax",Rows.laid_strconv_ErrSyntax),("socage/call.words",Rows.laid_socage_call_words),("unicode/utf8.first",Rows.laid_unicode_utf8_first)] w):∃m,Env m w:=by
 rw [MakeChecks.laidMetH_plain _ _ _ (by kernel_rfl)] at h;obtain⟨m,hm⟩:=Go.Proofs.cell_of_shapedOpen_int (zero:=#[.int .i64 0]) (t:=3) hsh (of_decide_eq_true (by kernel_rfl)) (by kernel_rfl) rfl (by kernel_rfl) (by kernel_rfl) underlying3 (g:=1);have h2:=h.tail.tail;have h3:=h2.tail.tail;have h4:=h3.tail;have h5:=h4.tail;refine⟨m,?_,?_,?_,hm,?_⟩
 ·rw [Jyu] at h2
  exact Lib.tabIs_of_head gTab tTab underlying264 underlying214 cU cT h2
 ·obtain⟨a,s,hv,_⟩:=laid_sentinel h4 gSyn tSyn underlying109 rowErr underlying360 underlying362 rfl rfl underlying9 cE cS
  exact⟨_,_,hv⟩
 ·obtain⟨a,s,hv,_⟩:=laid_sentinel h3 gRng tRng underlying109 rowErr underlying360 underlying362 rfl rfl underlying9 cE cS
  exact⟨_,_,hv⟩
 ·rw [Jyc] at h5
  obtain⟨ps,⟨g',t',cs,fuel,p,q,hg',ht',hvar,hd,_,_⟩,_⟩:=h5;obtain rfl:=Option.some.inj (gWds.symm.trans hg');obtain rfl:=Option.some.inj (tWds.symm.trans ht');intro i x hx;have:=World.var?_cell gWds hvar i;rw [this];have hc:=Jiw underlying172 underlying9 cS cW hd i x hx;simpa using hc
end Go.Proofs.YtekekhgjobahaaaGreatDoor.cal

namespace Go.Proofs.YtekekhgjobahaaaGreatDoor.cal
open Go.ChangeShapes Go.WideShapes Go.RowKit words

def Sized {H:Type} (t:TypeId) (d:DataW H):Prop:=∀n∈d.weights prog t,n≤reachBytes
theorem Sized.of_each {H:Type} {ts:List TypeId} {ds:List (DataW H)} (h:(DataW.weightsEach prog ts ds).all (·≤reachBytes)=true) {j:Nat} {t:TypeId} {d:DataW H} (ht:ts[j]?=some t) (hd:ds[j]?=some d):Sized t d:=fun n hn=>by
 have:=List.all_eq_true.1 h _ (DataW.weights_mem_each ht hd n hn);simpa using this
def Txts (w:World) (B:Nat) (A:Option Addr) (Q:List ByteArray):Prop:=∀(i:Nat) x,Q[i]?=some x→(∃b off,A=some ⟨b,off,none⟩∧b<B∧w.cell? ⟨b,off+i,none⟩=some (.string x))∧x.size≤140737488355328
theorem add_plain (b o j:Nat):(⟨b,o,none⟩:Addr).add j=⟨b,o+j,none⟩:=lru.add_place b o j
section
variable {H:Type} {enc:TypeId×Value→H} {W:World} {base:Nat} {spare:Nat→Bool} {held:Bool}
theorem cellsInt:Tryz.prog.cellsOf 3=1:=by kernel_rfl
theorem cellsStr:Tryz.prog.cellsOf 9=1:=by kernel_rfl
theorem cellsBool:Tryz.prog.cellsOf 4=1:=by kernel_rfl
theorem bytesStr:Tryz.prog.bytesOf 9=16:=by kernel_rfl
theorem Jau {P:Program} {e:TypeId}:∀{l:List (DataW H)} {d:DataW H},d∈l→∀n∈d.weights P e,n∈DataW.weightsAll P e l
 |[],_,h,_,_=>by cases h
 |x::l,d,h,n,hn=>by
  simp only [DataW.weightsAll,List.mem_append];rcases List.mem_cons.1 h with rfl |h
  ·exact .inl hn
  ·exact .inr (Jau h n hn)
theorem Ja3 {t e:TypeId} (hu:Tryz.prog.underlying t=some (.slice e)) {fuel:Nat} {a0:Option Addr} {len cap:Nat} {x:DataW H×List MemPlace} (h:DataW.trod enc prog W base spare held fuel t [.slice a0 len cap]=some x) (hs:Sized t x.1):
  len*Tryz.prog.bytesOf e≤140737488355328∧len≤cap∧(a0=none→len=0∧cap=0):=by
 rcases DataW.trod_slice hu h with⟨hc,_⟩ |⟨a,l,c,elems,rest,n,_,hc,hx,_,hl,_,hlen,_⟩
 ·simp at hc
  obtain⟨rfl,rfl,rfl⟩:=hc;exact⟨by omega,Nat.le_refl _,fun _=>⟨rfl,rfl⟩⟩
 ·simp at hc
  obtain⟨rfl,rfl,rfl⟩:=hc;subst hx;have hw:=hs _ (by
    simp only [DataW.weights,hu];exact List.mem_cons_self ..)
  rw [List.length_map,List.length_map,hlen] at hw;have hr:=reachBytes_lt;have:len*Tryz.prog.bytesOf e≤(len+rest.length)*Tryz.prog.bytesOf e:=Nat.mul_le_mul_right _ (Nat.le_add_right _ _);exact⟨by omega,hl,fun h=>by cases h⟩
theorem Jes {s:ByteArray} {x:DataW H×List MemPlace} (hx:x.1= .lit (.string s.data.toList)) (hs:Sized 9 x.1):s.size≤140737488355328:=by
 have:=hs s.data.toList.length (by rw [hx];simp [DataW.weights]);rw [size_list] at this;have hr:=reachBytes_lt;omega
theorem Jb2 {t e:TypeId} (hu:Tryz.prog.underlying t=some (.slice e)) {fuel:Nat} {a:Addr} {len cap:Nat} {x:DataW H×List MemPlace} (h:DataW.trod enc prog W base spare held fuel t [.slice (some a) len cap]=some x) (hs:Sized t x.1):
  ∃n,fuel=n+1∧∀i,i<len→∃cs d,W.cells? base (a.add (i*Tryz.prog.cellsOf e)) (Tryz.prog.cellsOf e)=some cs∧DataW.trod enc prog W base spare held n e cs=some d∧Sized e d.1:=by
 rcases DataW.trod_slice hu h with⟨hc,_⟩ |⟨a',l,c,elems,rest,n,hfu,hc,hx,_,_,_,hlen,hel,_⟩
 ·simp at hc
 ·simp at hc
  obtain⟨rfl,rfl,rfl⟩:=hc;subst hx;refine⟨n,hfu,fun i hi=>?_⟩;have key:=hel i hi;rw [List.getElem?_eq_getElem (by omega)] at key;obtain⟨cs,h1,h2⟩:=Option.bind_eq_some_iff.1 key;refine⟨cs,_,h1,h2,fun k hk=>hs k ?_⟩;simp only [DataW.weights,hu];exact List.mem_cons_of_mem _ (List.mem_append_left _ (Jau (List.mem_map.2 ⟨_,List.getElem_mem (by omega),rfl⟩) k hk))
theorem Jsm {fuel:Nat} {a0:Option Addr} {len cap:Nat} {x:DataW H×List MemPlace} (h:DataW.trod enc prog W base spare held fuel 27 [.slice a0 len cap]=some x) (hs:Sized 27 x.1):
  ∃Q:List ByteArray,Q.length=len∧Txts W W.heap.size a0 Q:=by
 rcases a0 with _ |a
 ·obtain⟨rfl,_⟩:=(Ja3 underlying27 h hs).2.2 rfl
  exact⟨[],rfl,fun i x hx=>by simp at hx⟩
 ·obtain⟨n,_,hel⟩:=Jb2 underlying27 h hs
  have each:∀i,i<len→∃y:ByteArray,y.size≤140737488355328∧W.cell? (a.add i)=some (.string y):=fun i hlt=>by
   obtain⟨cs,d,hcs,ht,hsd⟩:=hel i hlt;rw [cellsStr,Nat.mul_one] at hcs;obtain⟨s,rfl,hd,_⟩:=DataW.trod_string underlying9 ht;obtain⟨_,_,hat⟩:=World.cells?_some hcs;have h0:=hat 0 (by omega);have e:(a.add i).add 0=a.add i:=by simp [Addr.add]
   rw [e] at h0;exact⟨s,Jes (by rw [hd]) hsd,h0⟩
  obtain⟨f,hfl⟩:=Deep.choose_lt each;refine⟨(List.range len).map f,by simp,fun i x hx=>?_⟩;have hlt:i<len:=by
   have:=(List.getElem?_eq_some_iff.1 hx).1;simpa using this
  have hxe:x=f i:=by
   rw [List.getElem?_map,List.getElem?_range hlt] at hx;simpa using hx.symm
  subst hxe;obtain⟨b,off,spot⟩:=a;have h0:=(hfl 0 (by omega)).2;have hspot:spot=none:=by simpa [Addr.add] using World.cell?_spot h0
  subst hspot;have hcell:=(hfl i hlt).2;rw [add_plain] at hcell;exact⟨⟨b,off,rfl,World.block_lt_of_cell? W _ hcell,hcell⟩,(hfl i hlt).1⟩
theorem Jfm {t e:TypeId} (hu:Tryz.prog.underlying t=some (.slice e)) {fuel:Nat} {c:Value} {x:DataW H×List MemPlace} (h:DataW.trod enc prog W base spare held fuel t [c]=some x):∃a len cap,c= .slice a len cap:=by
 rcases DataW.trod_slice hu h with⟨hc,_⟩ |⟨a,l,c',_,_,_,_,hc,_⟩
 ·exact⟨_,_,_,by simpa using hc⟩
 ·exact⟨_,_,_,by simpa using hc⟩
end
end Go.Proofs.YtekekhgjobahaaaGreatDoor.cal
