import Derived.Test.YtkjpgheealfedaaGreatDoorCards
import Derived.Test.YtkjpgheealfedaaGreatDoorTie
import Derived.Test.YtkjpgheealfedaaGreatDoorKS
import Derived.Test.YtkjpgheealfedaaGreatDoorKT
import Derived.ShutString
import Derived.LaidMore
import Derived.Lay
import Derived.Deep.DeepHandedRow
set_option maxHeartbeats 4000000
set_option maxRecDepth 100000
open Go.Proofs.Tryz
namespace Go.Proofs.YtkjpgheealfedaaGreatDoor.serverLists
open Go.ChangeShapes Go.WideShapes Go.ChangeAt Go.RowKit tre ext
open Go.ChangeMaps (open_string shut_string)

def node0:Value:= .agg #[.int .i64 0,.bool false,.slice none 0 0,.slice none 0 0,.int .i64 0,.slice none 0 0,.string ⟨#[]⟩]
theorem own:ownKnob Tryz.prog.godebug=none:=by kernel_rfl
theorem laidOut:laidOutB prog=true:=by kernel_rfl
theorem Jqa (os:Os):laidMetH prog Rows.serverListsRow.laid ((World.laidAll prog os Rows.serverListsRow.laid).forCall (fun _ _=>0) ⟨#[],#[.agg #[.slice none 0 0,.string .empty,.bool false],.int .i64 0],[]⟩).memory:=by
 rw [MakeChecks.laidMetH_plain _ _ _ (by kernel_rfl)];exact laidMet_laidAll _ (by kernel_rfl) (by kernel_rfl)
theorem reads (os:Os) {H:Type} (enc:TypeId×Value→H):∃places,DataW.whole enc prog ((World.laidAll prog os Rows.serverListsRow.laid).forCall (fun _ _=>0) ⟨#[],#[.agg #[.slice none 0 0,.string .empty,.bool false],.int .i64 0],[]⟩).memory Tryz.f3.params.toList Rows.serverListsSpec.vars false #[Value.agg #[.slice none 0 0,.string .empty,.bool false],Value.int .i64 0].toList 8=some ([.agg [.nil,.lit (.string []),.lit (.bool false)],.lit (.int .i64 0)],[],places):=
 ⟨[],by kernel_rfl⟩

theorem lifted (os:Os) (started:os.Started) (H:Type) (enc:TypeId×Value→H) (F:Stop.Interp):
  ReturnsInHanded {} Tryz.checked os 3 .any ((OpenSpec.ofChange Rows.serverListsSpec).preRow enc prog Tryz.f3 Rows.serverListsRow.domain false Rows.serverListsRow.laid) (((OpenSpec.ofChange Rows.serverListsSpec).at F).post enc prog Tryz.f3 false true false false):=by
 obtain⟨places,hx⟩:=reads os enc;have hok:Input.okWideB prog ((World.laidAll prog os Rows.serverListsRow.laid).forCall (fun _ _=>0) ⟨#[],#[.agg #[.slice none 0 0,.string .empty,.bool false],.int .i64 0],[]⟩) 3 ⟨#[],#[.agg #[.slice none 0 0,.string .empty,.bool false],.int .i64 0],[]⟩=true:=by kernel_rfl
 refine returnsInHanded_of_row (C:=Tryz.checked) (s:=OpenSpec.ofChange Rows.serverListsSpec) own started (by kernel_rfl) func3
  ⟨World.laidAll prog os Rows.serverListsRow.laid,fun _ _=>0,⟨#[],#[.agg #[.slice none 0 0,.string .empty,.bool false],.int .i64 0],[]⟩,World.laidAll_os _ _ _,World.shaped_of_ZipB (by kernel_rfl) (by kernel_rfl),(Input.okWide_of_okWideB (base:=0) hok).1,(Input.okWide_of_okWideB hok).2,
    OpenSpec.preRow_of_cond 8 hx (by kernel_rfl) (fun k hk=>by cases hk) (by kernel_rfl) (Jqa os),by
     simp only [Assume.holds];exact⟨by simp,by simp,fun _=>Modest.zero,by simp,by simp⟩⟩ ?_
 intro W base args ds gs before hval0 hW _ _ hsz0 _ hsh _;have hval:∀(j:Nat) t v,Tryz.f3.params[j]?=some t→args[j]?=some v→Value.okWide prog W .any base t v:=hval0;have hW':=hW;obtain⟨p,q,hA0,hV,rfl,hfz,hnd⟩:=hW;have hA:DataW.TrodAll enc prog W 0 (fun _=>true) true Tryz.f3.params.toList args.toList ds p:=hA0;have hsz:(DataW.weightsEach prog (Tryz.f3.params.toList++DataSpec.varTypes prog (OpenSpec.ofChange Rows.serverListsSpec).bare.plain) (ds++gs)).all (·≤reachBytes)=true:=hsz0;rw [Tryz.params3] at hA hval hsz;obtain⟨v0,vs0,d0,ds0,p0,q0,hargs,rfl,rfl,h0,g0⟩:=trodAll_cons hA;obtain⟨v1,vs1,d1,ds1,p1,q1,rfl,rfl,rfl,h1,g1⟩:=trodAll_cons g0;obtain⟨rfl,rfl,rfl⟩:=trodAll_nil g1;obtain rfl:args=#[v0,v1]:=by cases args;simp_all
 obtain⟨rfl,rfl⟩:=trodVars_none hV;have k0:=h0;have lt0:∀x∈p0,x.block<W.heap.size:=by obtain⟨m,hm⟩:=k0;exact DataW.trod_lt m _ _ _ hm
 have k1:=h1;have lt1:∀x∈p1,x.block<W.heap.size:=by obtain⟨m,hm⟩:=k1;exact DataW.trod_lt m _ _ _ hm
 obtain⟨cs0,rfl,_,_⟩:∃cs,v0= .agg cs∧cs.size=Tryz.prog.cellsOf 24∧Row.okWide prog W .any base 24 cs:=by
  have:=hval 0 24 v0 rfl rfl;simpa [Value.okWide,underlying24] using this
 obtain⟨a0,T0,cap0,s0,f0,rs0,hcs0,hT0,hl0,hs0⟩:∃(a:Option Addr) (T:List Nd) (c:Nat) (s:ByteArray) (f:Bool) (rs:Nat→Raw),cs0.toList=[.slice a T.length c,.string s,.bool f]∧stk.Trees W W.heap.size a T rs∧T.length*112≤140737488355328∧s.size≤140737488355328:=by
  obtain⟨fuel,hf⟩:=h0;exact wlk.case_of hf (Sized.of_each hsz (j:=0) rfl rfl)
 obtain rfl:cs0=#[.slice a0 T0.length cap0,.string s0,.bool f0]:=Array.toList_inj.1 hcs0;obtain⟨i1,rfl,rfl,rfl,wi1⟩:=open_int underlying3 (hval 1 3 v1 rfl rfl) h1;have hi1: -9223372036854775808≤i1∧i1≤9223372036854775807:=by
  simp [Lit.wf,IntKind.min,IntKind.max,IntKind.signed,IntKind.bits] at wi1;omega
 obtain⟨m,hm⟩:=Tryz.laysM146.s1_3 W hsh;clear hA0 hval0;refine (svr.law_slists a0 cap0 T0 rs0 s0 f0 i1 m W hT0 hm hs0 hi1).mono fun e W' ⟨he,bel⟩=>?_;subst he;exact⟨_,rfl,_,_,_,[],_,[],hW',trodAll_mk1 (shut_bool underlying4 _),(trodAll_cons_mk (Below.trod laidOut (by kernel_rfl) (of_decide_eq_true (by kernel_rfl)) k0 bel lt0) (trodAll_cons_mk (Below.trod laidOut (by kernel_rfl) (of_decide_eq_true (by kernel_rfl)) k1 bel lt1) trodAll_mk0)),rfl,bel.frame _,fun h=>by cases h⟩
theorem said:Rows.ServerListsSaid:=
 OpenClaim.holds_of_cond 3 Tryz.f3 rfl rfl rfl rfl rfl rfl rfl ⟨rfl,rfl,rfl,rfl,rfl⟩ rfl rfl rfl rfl rfl (by kernel_rfl) func3 (by
     unfold joinedFacts
     repeat' (rw [Bool.and_eq_true];refine And.intro ?_ ?_)
     all_goals (as_aux_lemma=>kernel_rfl))
   (of_decide_eq_true (by kernel_rfl)) (by unfold Func.isWrapper;first |(rw [if_pos (by decide+kernel)];kernel_rfl) |(rw [if_neg (by decide+kernel)];exact⟨rfl,rfl⟩))
   (fun os started H enc _ F=>by rw [OpenClaim.pre_eq_preRow];exact lifted os started H enc F)

theorem plain (f:FuncId) (fn:Func) (hf:Tryz.pinned.checked.prog.funcNamed Rows.serverListsRow.func=some f) (hfn:Tryz.pinned.checked.prog.funcs[f]?=some fn):
  true=Tryz.pinned.checked.prog.looks []∧∀(j:Nat) t,fn.params[j]?=some t→Tryz.pinned.checked.prog.wantsStandIn t=false:=by
 obtain rfl:f=3:=Option.some.inj ((show Tryz.prog.funcNamed Rows.serverListsRow.func=some 3 by kernel_rfl).symm.trans hf) |>.symm;obtain rfl:fn=Tryz.f3:=(Option.some.inj (func3.symm.trans hfn)).symm;refine⟨by kernel_rfl,fun j t ht=>?_⟩;rw [Tryz.params3] at ht;have ht':=Array.mem_of_getElem? ht;simp at ht';rcases ht' with rfl |rfl
 ·exact (show Tryz.prog.wantsStandIn 24=false by kernel_rfl)
 ·exact (show Tryz.prog.wantsStandIn 3=false by kernel_rfl)

theorem card:Rows.ServerListsCardSaid:=
 Claim7.holds_tied_plain_at .later [] _ _ _ _ said (fun _ h=>by cases h) (by kernel_rfl) (fun _ h=>by cases h) serverLists_row_tie rfl ⟨rfl,rfl⟩ (by kernel_rfl) rfl plain (by kernel_rfl)
end Go.Proofs.YtkjpgheealfedaaGreatDoor.serverLists
