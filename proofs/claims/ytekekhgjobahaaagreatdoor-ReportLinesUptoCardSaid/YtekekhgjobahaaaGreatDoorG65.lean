import Derived.Test.YtekekhgjobahaaaGreatDoorG47
import Derived.Test.YtekekhgjobahaaaGreatDoorRows
import Derived.Stop.LaidErr
import Derived.LaidMore
import Derived.Lay
set_option maxRecDepth 100000
open Go.Proofs.Tryz
namespace Go.Proofs.YtekekhgjobahaaaGreatDoor.cal
open Go.RowKit Go.ChangeShapes words

theorem Jd3 {H:Type} {enc:TypeId×Value→H} {P:Program} {w:World} {base:Nat} {sp:Nat→Bool} {held:Bool} {fuel:Nat} {t e:TypeId} {n:Nat} {cs:List Value} {zs:List (List UInt8)} {p:List MemPlace}
  (ht:P.underlying t=some (.array n e)) (he:P.underlying e=some .string) (hce:P.cellsOf e=1) (hct:P.cellsOf t=n)
  (h:DataW.trod enc P w base sp held fuel t cs=some ((.agg (zs.map fun z=> .lit (.string z))),p)):∀(i:Nat) z,zs[i]?=some z→cs[i]?=some (.string ⟨z.toArray⟩):=by
 cases fuel with
 |zero=>simp [DataW.trod] at h
 |succ fuel=>
  simp only [DataW.trod,ht,hce,hct,Nat.mul_one] at h;split at h
  ·rename_i hl
   obtain⟨xs,hm,hx⟩:=Option.map_eq_some_iff.1 h;have hxs:xs.map (·.1)=zs.map fun z=>(DataW.lit (.string z):DataW H):=by
    have:=congrArg Prod.fst hx;simpa using this
   have hxl:xs.length=n:=by simpa using Lib.mapM_length hm
   have hzl:zs.length=n:=by
    have:=congrArg List.length hxs;simp at this;omega
   intro i z hz;have hi:i<n:=by rw [←hzl];exact (List.getElem?_eq_some_iff.1 hz).1
   obtain⟨b,hb,hf⟩:=Lib.mapM_at hm i i (by simp [hi]);obtain⟨s,hc,hbe,_⟩:=DataW.trod_string he hf;have h1:cs[i]?=some (.string s):=by
    have:=congrArg (·[0]?) hc;simpa [List.getElem?_take,List.getElem?_drop] using this
   have h2:(xs.map (·.1))[i]?=some (DataW.lit (.string s.data.toList):DataW H):=by simp [hb,hbe]
   rw [hxs] at h2;simp only [List.getElem?_map,Option.map_eq_some_iff,DataW.lit.injEq,Lit.string.injEq] at h2;obtain⟨z',hz',rfl⟩:=h2;rw [hz] at hz';injection hz' with hz';rw [h1,hz']
  ·cases h
theorem gTab:Tryz.prog.globalNamed "internal/strconv.uint64pow10" =some 2:=by kernel_rfl
theorem gSyn:Tryz.prog.globalNamed "strconv.ErrSyntax" =some 7:=by kernel_rfl
theorem gRng:Tryz.prog.globalNamed "strconv.ErrRange" =some 8:=by kernel_rfl
theorem gWds:Tryz.prog.globalNamed "socage/call.words" =some 0:=by kernel_rfl
theorem tTab:(Tryz.prog.globals[2]?).map (·.type)=some 264:=by kernel_rfl
theorem tSyn:(Tryz.prog.globals[7]?).map (·.type)=some 109:=by kernel_rfl
theorem tRng:(Tryz.prog.globals[8]?).map (·.type)=some 109:=by kernel_rfl
theorem tWds:(Tryz.prog.globals[0]?).map (·.type)=some 172:=by kernel_rfl
theorem star: "*" ++ "errors.errorString" = "*errors.errorString" :=by decide
theorem rowErr (u:TypeId) (h:Tryz.prog.typeName? 3 u=some "*errors.errorString"):u=360:=
 typeName_ptr_named (nm:= "errors.errorString") (by rw [star];kernel_rfl) (by kernel_rfl) (by decide) u (by rw [star];exact h)
theorem cE:Tryz.prog.cellsOf 362=1:=by kernel_rfl
theorem cS:Tryz.prog.cellsOf 9=1:=by kernel_rfl
theorem cU:Tryz.prog.cellsOf 214=1:=by kernel_rfl
theorem cT:Tryz.prog.cellsOf 264=20:=by kernel_rfl
theorem cW:Tryz.prog.cellsOf 172=10:=by kernel_rfl
theorem Jmp:(Rows.laid_internal_strconv_uint64pow10:DataW Unit)=Lib.tabData .u64 Lib.pow10Tab:=by kernel_rfl
theorem Jm3:(Rows.laid_socage_call_words:DataW Unit)= .agg (wds.map fun z=> .lit (.string z)):=by kernel_rfl
theorem Jm9 {w:World} (hsh:w.ShapedOpen prog) (h:laidMetH prog [("math/bits.deBruijn32tab",Rows.laid_math_bits_deBruijn32tab),("math/bits.deBruijn64tab",Rows.laid_math_bits_deBruijn64tab),("internal/strconv.uint64pow10",Rows.laid_internal_strconv_uint64pow10),("unicode/utf8.acceptRanges",Rows.laid_unicode_utf8_acceptRanges),("strconv.ErrRange",Rows.laid_strconv_ErrRange),("strconv.ErrSyntax",Rows.laid_strconv_ErrSyntax),("socage/call.words",Rows.laid_socage_call_words),("unicode/utf8.first",Rows.laid_unicode_utf8_first)] w):∃m,Env m w:=by
 rw [MakeChecks.laidMetH_plain _ _ _ (by kernel_rfl)] at h;obtain⟨m,hm⟩:=Go.Proofs.cell_of_shapedOpen_int (zero:=#[.int .i64 0]) (t:=3) hsh (of_decide_eq_true (by kernel_rfl)) (by kernel_rfl) rfl (by kernel_rfl) (by kernel_rfl) underlying3 (g:=1);have h2:=h.tail.tail;have h3:=h2.tail.tail;have h4:=h3.tail;have h5:=h4.tail;refine⟨m,?_,?_,?_,hm,?_⟩
 ·rw [Jmp] at h2
  exact Lib.tabIs_of_head gTab tTab underlying264 underlying214 cU cT h2
 ·obtain⟨a,s,hv,_⟩:=laid_sentinel h4 gSyn tSyn underlying109 rowErr underlying360 underlying362 rfl rfl underlying9 cE cS
  exact⟨_,_,hv⟩
 ·obtain⟨a,s,hv,_⟩:=laid_sentinel h3 gRng tRng underlying109 rowErr underlying360 underlying362 rfl rfl underlying9 cE cS
  exact⟨_,_,hv⟩
 ·rw [Jm3] at h5
  obtain⟨ps,⟨g',t',cs,fuel,p,q,hg',ht',hvar,hd,_,_⟩,_⟩:=h5;obtain rfl:=Option.some.inj (gWds.symm.trans hg');obtain rfl:=Option.some.inj (tWds.symm.trans ht');intro i x hx;have:=World.var?_cell gWds hvar i;rw [this];have hc:=Jd3 underlying172 underlying9 cS cW hd i x hx;simpa using hc
end Go.Proofs.YtekekhgjobahaaaGreatDoor.cal
