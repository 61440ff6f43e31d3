import Derived.Test.YtekekhgjobahaaaGreatDoorCards
import Derived.Test.YtekekhgjobahaaaGreatDoorTie
import Derived.Test.YtekekhgjobahaaaGreatDoorG66
import Derived.ShutString
import Derived.Deep.DeepHandedRow
set_option maxHeartbeats 4000000
set_option maxRecDepth 100000
open Go.Proofs.Tryz
namespace Go.Proofs.YtekekhgjobahaaaGreatDoor.reportLines
open Go.ChangeShapes Go.WideShapes Go.ChangeAt Go.RowKit cal
open Go.ChangeMaps (open_string shut_string)

theorem own:ownKnob Tryz.prog.godebug=none:=by kernel_rfl
theorem laidOut:laidOutB prog=true:=by kernel_rfl
theorem Jkx (os:Os):laidMetH prog Rows.reportLinesUptoRow.laid ((World.laidAll prog os Rows.reportLinesUptoRow.laid).forCall (fun _ _=>0) ⟨#[],#[.slice none 0 0,.int .i64 0,.agg #[.int .i64 0,.int .i64 0]],[]⟩).memory:=by
 rw [MakeChecks.laidMetH_plain _ _ _ (by kernel_rfl)];exact laidMet_laidAll _ (by kernel_rfl) (by kernel_rfl)
theorem reads (os:Os) {H:Type} (enc:TypeId×Value→H):∃places,DataW.whole enc prog ((World.laidAll prog os Rows.reportLinesUptoRow.laid).forCall (fun _ _=>0) ⟨#[],#[.slice none 0 0,.int .i64 0,.agg #[.int .i64 0,.int .i64 0]],[]⟩).memory Tryz.f4.params.toList Rows.reportLinesSpec.vars false #[Value.slice none 0 0,.int .i64 0,.agg #[.int .i64 0,.int .i64 0]].toList 8=some ([.nil,.lit (.int .i64 0),.agg [.lit (.int .i64 0),.lit (.int .i64 0)]],[],places):=
 ⟨[],by kernel_rfl⟩

theorem lifted (os:Os) (started:os.Started) (H:Type) (enc:TypeId×Value→H) (F:Stop.Interp):
  ReturnsInHanded {} Tryz.checked os 4 .any ((Rows.OpenSpec.upto Rows.reportLinesSpec).preRow enc prog Tryz.f4 Rows.reportLinesUptoRow.domain false Rows.reportLinesUptoRow.laid) (((Rows.OpenSpec.upto Rows.reportLinesSpec).at F).post enc prog Tryz.f4 false true false false):=by
 obtain⟨places,hx⟩:=reads os enc;have hok:Input.okWideB prog ((World.laidAll prog os Rows.reportLinesUptoRow.laid).forCall (fun _ _=>0) ⟨#[],#[.slice none 0 0,.int .i64 0,.agg #[.int .i64 0,.int .i64 0]],[]⟩) 4 ⟨#[],#[.slice none 0 0,.int .i64 0,.agg #[.int .i64 0,.int .i64 0]],[]⟩=true:=by kernel_rfl
 refine returnsInHanded_of_row (C:=Tryz.checked) (s:=Rows.OpenSpec.upto Rows.reportLinesSpec) own started (by kernel_rfl) func4
  ⟨World.laidAll prog os Rows.reportLinesUptoRow.laid,fun _ _=>0,⟨#[],#[.slice none 0 0,.int .i64 0,.agg #[.int .i64 0,.int .i64 0]],[]⟩,World.laidAll_os _ _ _,World.shaped_of_ZipB (by kernel_rfl) (by kernel_rfl),(Input.okWide_of_okWideB (base:=0) hok).1,(Input.okWide_of_okWideB hok).2,
    OpenSpec.preRow_of_cond 8 hx (by kernel_rfl) (fun k hk=>by cases hk;kernel_rfl) (by kernel_rfl) (Jkx os),by
     simp only [Assume.holds];exact⟨by simp,by simp,fun _=>Modest.zero,by simp,by simp⟩⟩ ?_
 intro W base args ds gs before hval0 hW _ hcond hsz0 hlaid hsh _;have hval:∀(j:Nat) t v,Tryz.f4.params[j]?=some t→args[j]?=some v→Value.okWide prog W .any base t v:=hval0;have hW':=hW;obtain⟨p,q,hA0,hV,rfl,hfz,hnd⟩:=hW;have hA:DataW.TrodAll enc prog W 0 (fun _=>true) true Tryz.f4.params.toList args.toList ds p:=hA0;have hk:Rows.uptoSmall H (ds++gs)=true:=hcond _ rfl;rw [Tryz.params4] at hA hval;obtain⟨v0,vs0,d0,ds0,p0,q0,hargs,rfl,rfl,h0,g0⟩:=trodAll_cons hA;obtain⟨v1,vs1,d1,ds1,p1,q1,rfl,rfl,rfl,h1,g1⟩:=trodAll_cons g0;obtain⟨v2,vs2,d2,ds2,p2,q2,rfl,rfl,rfl,h2,g2⟩:=trodAll_cons g1;obtain⟨rfl,rfl,rfl⟩:=trodAll_nil g2;obtain rfl:args=#[v0,v1,v2]:=by cases args;simp_all
 obtain⟨rfl,rfl⟩:=trodVars_none hV;have hbk:rep.Bk d0:=by
  have h:=of_decide_eq_true hk;simp only [List.append_nil,Rows.uptoBulkAll] at h;unfold rep.Bk;omega
 have k0:=h0;have lt0:∀x∈p0,x.block<W.heap.size:=by obtain⟨m,hm⟩:=k0;exact DataW.trod_lt m _ _ _ hm
 have k1:=h1;have lt1:∀x∈p1,x.block<W.heap.size:=by obtain⟨m,hm⟩:=k1;exact DataW.trod_lt m _ _ _ hm
 have k2:=h2;have lt2:∀x∈p2,x.block<W.heap.size:=by obtain⟨m,hm⟩:=k2;exact DataW.trod_lt m _ _ _ hm
 obtain⟨a0,len0,cap0,rfl⟩:=okWide_slice underlying35 (hval 0 35 v0 rfl rfl);obtain⟨T0,rfl,hT0,hN0,hI0,hl0⟩:∃L:List tal.Rc,L.length=len0∧tal.Recs W a0 L∧(∀r∈L,cal.Sl W r.A r.N)∧(∀r∈L,rep.RcIn r)∧len0≤1048576:=by
  obtain⟨fuel,hf⟩:=h0;exact rep.recs_of hf hbk
 obtain⟨i1,rfl,rfl,rfl,hi1⟩:=open_int underlying3 (hval 1 3 v1 rfl rfl) h1;obtain⟨cs2,rfl,_,_⟩:∃cs,v2= .agg cs∧cs.size=Tryz.prog.cellsOf 53∧Row.okWide prog W .any base 53 cs:=by
  have:=hval 2 53 v2 rfl rfl;simpa [Value.okWide,underlying53] using this
 obtain⟨x2,y2,hcs2,hx2,hy2⟩:∃x y:Int,cs2.toList=[.int .i64 x,.int .i64 y]∧I64 x∧I64 y:=by
  obtain⟨fuel,hf⟩:=h2;exact rep.pair_of hf
 obtain rfl:cs2=#[.int .i64 x2,.int .i64 y2]:=Array.toList_inj.1 hcs2;obtain⟨m,hE⟩:=Jm9 hsh hlaid;clear hA0 hval0;refine (rep.law_lines m a0 cap0 T0 i1 x2 y2 W hE hT0 hN0 hI0 (rep.int_i64 hi1) hx2 hy2 hl0).mono fun e W' ⟨he,bel⟩=>?_;subst he;exact⟨_,rfl,_,_,_,[],_,[],hW',trodAll_mk1 (shut_bool underlying4 _),(trodAll_cons_mk (Below.trod laidOut (by kernel_rfl) (of_decide_eq_true (by kernel_rfl)) k0 bel lt0) (trodAll_cons_mk (Below.trod laidOut (by kernel_rfl) (of_decide_eq_true (by kernel_rfl)) k1 bel lt1) (trodAll_cons_mk (Below.trod laidOut (by kernel_rfl) (of_decide_eq_true (by kernel_rfl)) k2 bel lt2) trodAll_mk0))),rfl,bel.frame _,fun h=>by cases h⟩
theorem said:Rows.ReportLinesUptoSaid:=
 OpenClaim.holds_of_cond 4 Tryz.f4 rfl rfl rfl rfl rfl rfl rfl ⟨rfl,rfl,rfl,rfl,rfl⟩ rfl rfl rfl rfl rfl (by kernel_rfl) func4 (by
     unfold joinedFacts
     repeat' (rw [Bool.and_eq_true];refine And.intro ?_ ?_)
     all_goals (as_aux_lemma=>kernel_rfl))
   (of_decide_eq_true (by kernel_rfl)) (by unfold Func.isWrapper;first |(rw [if_pos (by decide+kernel)];kernel_rfl) |(rw [if_neg (by decide+kernel)];exact⟨rfl,rfl⟩))
   (fun os started H enc _ F=>by rw [OpenClaim.pre_eq_preRow];exact lifted os started H enc F)

theorem plain (f:FuncId) (fn:Func) (hf:Tryz.pinned.checked.prog.funcNamed Rows.reportLinesUptoRow.func=some f) (hfn:Tryz.pinned.checked.prog.funcs[f]?=some fn):
  true=Tryz.pinned.checked.prog.looks []∧∀(j:Nat) t,fn.params[j]?=some t→Tryz.pinned.checked.prog.wantsStandIn t=false:=by
 obtain rfl:f=4:=Option.some.inj ((show Tryz.prog.funcNamed Rows.reportLinesUptoRow.func=some 4 by kernel_rfl).symm.trans hf) |>.symm;obtain rfl:fn=Tryz.f4:=(Option.some.inj (func4.symm.trans hfn)).symm;refine⟨by kernel_rfl,fun j t ht=>?_⟩;rw [Tryz.params4] at ht;have hm:t=35∨t=3∨t=53:=by simpa using Array.mem_of_getElem? ht
 rcases hm with rfl |rfl |rfl
 ·exact (show Tryz.prog.wantsStandIn 35=false by kernel_rfl)
 ·exact (show Tryz.prog.wantsStandIn 3=false by kernel_rfl)
 ·exact (show Tryz.prog.wantsStandIn 53=false by kernel_rfl)

theorem card:Rows.ReportLinesUptoCardSaid:=
 Claim7.holds_tied_plain_at .later [] _ _ _ _ said (fun _ h=>by cases h) (by kernel_rfl) (fun _ h=>by cases h) reportLinesUpto_row_tie rfl ⟨rfl,rfl⟩ (by kernel_rfl) rfl plain (by kernel_rfl)
end Go.Proofs.YtekekhgjobahaaaGreatDoor.reportLines
