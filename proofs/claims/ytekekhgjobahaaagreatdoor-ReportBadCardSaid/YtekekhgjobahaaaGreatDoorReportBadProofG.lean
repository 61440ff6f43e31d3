import Derived.Test.YtekekhgjobahaaaGreatDoorCards
import Derived.Test.YtekekhgjobahaaaGreatDoorTie
import Derived.Test.YtekekhgjobahaaaGreatDoorF3
import Derived.Test.YtekekhgjobahaaaGreatDoorF1
import Derived.ShutString
import Derived.Deep.DeepHandedRow
set_option maxHeartbeats 4000000
set_option maxRecDepth 100000
open Go.Proofs.Tryz
namespace Go.Proofs.YtekekhgjobahaaaGreatDoor.reportBad
open Go.ChangeShapes Go.WideShapes Go.ChangeAt Go.RowKit cal
open Go.ChangeMaps (open_string shut_string)

theorem own:ownKnob Tryz.prog.godebug=none:=by kernel_rfl
theorem laidOut:laidOutB prog=true:=by kernel_rfl
theorem Ju3 (os:Os):laidMetH prog Rows.reportBadRow.laid ((World.laidAll prog os Rows.reportBadRow.laid).forCall (fun _ _=>0) ⟨#[],#[.string .empty,.slice none 0 0,.string .empty],[]⟩).memory:=by
 rw [MakeChecks.laidMetH_plain _ _ _ (by kernel_rfl)];exact laidMet_laidAll _ (by kernel_rfl) (by kernel_rfl)
theorem reads (os:Os) {H:Type} (enc:TypeId×Value→H):∃places,DataW.whole enc prog ((World.laidAll prog os Rows.reportBadRow.laid).forCall (fun _ _=>0) ⟨#[],#[.string .empty,.slice none 0 0,.string .empty],[]⟩).memory Tryz.f3.params.toList Rows.reportBadSpec.vars false #[Value.string .empty,Value.slice none 0 0,Value.string .empty].toList 8=some ([.lit (.string []),.nil,.lit (.string [])],[],places):=
 ⟨[],by kernel_rfl⟩

theorem lifted (os:Os) (started:os.Started) (H:Type) (enc:TypeId×Value→H) (F:Stop.Interp):
  ReturnsInHanded {} Tryz.checked os 3 .any ((OpenSpec.ofChange Rows.reportBadSpec).preRow enc prog Tryz.f3 Rows.reportBadRow.domain false Rows.reportBadRow.laid) (((OpenSpec.ofChange Rows.reportBadSpec).at F).post enc prog Tryz.f3 false true false false):=by
 obtain⟨places,hx⟩:=reads os enc;have hok:Input.okWideB prog ((World.laidAll prog os Rows.reportBadRow.laid).forCall (fun _ _=>0) ⟨#[],#[.string .empty,.slice none 0 0,.string .empty],[]⟩) 3 ⟨#[],#[.string .empty,.slice none 0 0,.string .empty],[]⟩=true:=by kernel_rfl
 refine returnsInHanded_of_row (C:=Tryz.checked) (s:=OpenSpec.ofChange Rows.reportBadSpec) own started (by kernel_rfl) func3
  ⟨World.laidAll prog os Rows.reportBadRow.laid,fun _ _=>0,⟨#[],#[.string .empty,.slice none 0 0,.string .empty],[]⟩,World.laidAll_os _ _ _,World.shaped_of_ZipB (by kernel_rfl) (by kernel_rfl),(Input.okWide_of_okWideB (base:=0) hok).1,(Input.okWide_of_okWideB hok).2,
    OpenSpec.preRow_of_cond 8 hx (by kernel_rfl) (fun k hk=>by cases hk) (by kernel_rfl) (Ju3 os),by
     simp only [Assume.holds];exact⟨by simp,by simp,fun _=>Modest.zero,by simp,by simp⟩⟩ ?_
 intro W base args ds gs before hval0 hW _ _ hsz0 hlaid hsh _;have hval:∀(j:Nat) t v,Tryz.f3.params[j]?=some t→args[j]?=some v→Value.okWide prog W .any base t v:=hval0;have hW':=hW;obtain⟨p,q,hA0,hV,rfl,hfz,hnd⟩:=hW;have hA:DataW.TrodAll enc prog W 0 (fun _=>true) true Tryz.f3.params.toList args.toList ds p:=hA0;have hsz:(DataW.weightsEach prog (Tryz.f3.params.toList++DataSpec.varTypes prog (OpenSpec.ofChange Rows.reportBadSpec).bare.plain) (ds++gs)).all (·≤reachBytes)=true:=hsz0;rw [Tryz.params3] at hA hval hsz;obtain⟨v0,vs0,d0,ds0,p0,q0,hargs,rfl,rfl,h0,g0⟩:=trodAll_cons hA;obtain⟨v1,vs1,d1,ds1,p1,q1,rfl,rfl,rfl,h1,g1⟩:=trodAll_cons g0;obtain⟨v2,vs2,d2,ds2,p2,q2,rfl,rfl,rfl,h2,g2⟩:=trodAll_cons g1;obtain⟨rfl,rfl,rfl⟩:=trodAll_nil g2;obtain rfl:args=#[v0,v1,v2]:=by cases args;simp_all
 obtain⟨rfl,rfl⟩:=trodVars_none hV;have k0:=h0;have lt0:∀x∈p0,x.block<W.heap.size:=by obtain⟨m,hm⟩:=k0;exact DataW.trod_lt m _ _ _ hm
 have k1:=h1;have lt1:∀x∈p1,x.block<W.heap.size:=by obtain⟨m,hm⟩:=k1;exact DataW.trod_lt m _ _ _ hm
 have k2:=h2;have lt2:∀x∈p2,x.block<W.heap.size:=by obtain⟨m,hm⟩:=k2;exact DataW.trod_lt m _ _ _ hm
 obtain⟨s0,rfl,rfl,rfl,_⟩:=open_string underlying9 (hval 0 9 v0 rfl rfl) h0;obtain⟨a1,len1,cap1,rfl⟩:=okWide_slice underlying22 (hval 1 22 v1 rfl rfl);obtain⟨T1,rfl,rs1,hT1,hl1,hcap1,hz1⟩:∃T:List tre.Nd,T.length=len1∧∃rs:Nat→tre.Raw,stk.Trees W W.heap.size a1 T rs∧len1*112≤140737488355328∧len1≤cap1∧(a1=none→len1=0∧cap1=0):=by
  obtain⟨fuel,hf⟩:=h1;exact stk.nodes_of hf (ext.Sized.of_each hsz (j:=1) rfl rfl)
 obtain⟨s2,rfl,rfl,rfl,_⟩:=open_string underlying9 (hval 2 9 v2 rfl rfl) h2;obtain⟨m,hE⟩:=Jyk hsh hlaid;clear hA0 hval0;refine (rep.law_bad m s0 a1 cap1 T1 rs1 s2 W hT1 hE).mono fun e W' ⟨he,bel⟩=>?_;subst he;exact⟨_,rfl,_,_,_,[],_,[],hW',trodAll_mk1 (shut_bool underlying4 _),(trodAll_cons_mk (Below.trod laidOut (by kernel_rfl) (of_decide_eq_true (by kernel_rfl)) k0 bel lt0) (trodAll_cons_mk (Below.trod laidOut (by kernel_rfl) (of_decide_eq_true (by kernel_rfl)) k1 bel lt1) (trodAll_cons_mk (Below.trod laidOut (by kernel_rfl) (of_decide_eq_true (by kernel_rfl)) k2 bel lt2) trodAll_mk0))),rfl,bel.frame _,fun h=>by cases h⟩
theorem said:Rows.ReportBadSaid:=
 OpenClaim.holds_of_cond 3 Tryz.f3 rfl rfl rfl rfl rfl rfl rfl ⟨rfl,rfl,rfl,rfl,rfl⟩ rfl rfl rfl rfl rfl (by kernel_rfl) func3 (by
     unfold joinedFacts
     repeat' (rw [Bool.and_eq_true];refine And.intro ?_ ?_)
     all_goals (as_aux_lemma=>kernel_rfl))
   (of_decide_eq_true (by kernel_rfl)) (by unfold Func.isWrapper;first |(rw [if_pos (by decide+kernel)];kernel_rfl) |(rw [if_neg (by decide+kernel)];exact⟨rfl,rfl⟩))
   (fun os started H enc _ F=>by rw [OpenClaim.pre_eq_preRow];exact lifted os started H enc F)

theorem plain (f:FuncId) (fn:Func) (hf:Tryz.pinned.checked.prog.funcNamed Rows.reportBadRow.func=some f) (hfn:Tryz.pinned.checked.prog.funcs[f]?=some fn):
  true=Tryz.pinned.checked.prog.looks []∧∀(j:Nat) t,fn.params[j]?=some t→Tryz.pinned.checked.prog.wantsStandIn t=false:=by
 obtain rfl:f=3:=Option.some.inj ((show Tryz.prog.funcNamed Rows.reportBadRow.func=some 3 by kernel_rfl).symm.trans hf) |>.symm;obtain rfl:fn=Tryz.f3:=(Option.some.inj (func3.symm.trans hfn)).symm;refine⟨by kernel_rfl,fun j t ht=>?_⟩;rw [Tryz.params3] at ht;have hm:t=9∨t=22∨t=9:=by simpa using Array.mem_of_getElem? ht
 rcases hm with rfl |rfl |rfl
 ·exact (show Tryz.prog.wantsStandIn 9=false by kernel_rfl)
 ·exact (show Tryz.prog.wantsStandIn 22=false by kernel_rfl)
 ·exact (show Tryz.prog.wantsStandIn 9=false by kernel_rfl)

theorem card:Rows.ReportBadCardSaid:=
 Claim7.holds_tied_plain_at .later [] _ _ _ _ said (fun _ h=>by cases h) (by kernel_rfl) (fun _ h=>by cases h) reportBad_row_tie rfl ⟨rfl,rfl⟩ (by kernel_rfl) rfl plain (by kernel_rfl)
end Go.Proofs.YtekekhgjobahaaaGreatDoor.reportBad
