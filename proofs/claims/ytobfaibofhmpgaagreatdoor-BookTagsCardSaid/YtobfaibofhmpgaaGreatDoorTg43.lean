/- Texts brought together, and only what the theorem reaches. -/
import Derived.Test.YtobfaibofhmpgaaGreatDoorTg42
import Derived.Test.YtobfaibofhmpgaaGreatDoorRows
import Derived.JoinedCond
set_option linter.unusedVariables false
set_option maxRecDepth 100000
set_option maxHeartbeats 2000000
namespace Go.Proofs.YtobfaibofhmpgaaGreatDoor
namespace lawBookTags
open Go.Lib Go.RowKit Go.Shelf Go.ChangeShapes Go.WideShapes Go.ChangeAt Ch Bo
open Go.ChangeMaps (open_string shut_string)
theorem laid_tabs {W:World} (hL:laidMetH Tryz.prog Rows.bookTagsRow.laid W):Tabs W :=
  tabs_of (first_eq▸Lib.laidMet.reads hL (.tail _ (.tail _ (.tail _ (.tail _ (.head _)))))) (accept_eq▸Lib.laidMet.reads hL (.tail _ (.tail _ (.tail _ (.head _)))))
theorem laid_pow {W:World} (hL:laidMetH Tryz.prog Rows.bookTagsRow.laid W):Pow W :=
  pow_of (pow_eq▸Lib.laidMet.reads hL (.tail _ (.tail _ (.head _))))
noncomputable def laidWorld (os:Os):World :=
  let w0:=World.holding Tryz.prog os ⟨#[],#[],[]⟩
  let put (h:Array Obj) (g:Nat) (cs:Array Value):Array Obj:=h.modify g fun
    | .cells _ t frozen=>.cells cs t frozen
    | o=>o
  let h1:=put w0.heap 1 (Lib.firstTab.map fun z=>Value.int .u8 z).toArray
  let h2:=put h1 2 ((List.range 16).flatMap fun i=>[Value.int .u8 (Lib.accLo i),Value.int .u8 (Lib.accHi i)]).toArray
  let h3:=put h2 3 (Lib.pow10Tab.map fun z=>Value.int .u64 z).toArray
  let h4:=put h3 4 (de32.map fun z=>Value.int .u8 z).toArray
  let h5:=put h4 5 (de64.map fun z=>Value.int .u8 z).toArray
  { w0 with heap:=h5 }
theorem laid_met (os:Os) (args:Array Value):laidMet Tryz.prog Rows.bookTagsRow.laid ((laidWorld os).forCall (fun _ _=>0) ⟨#[],args,[]⟩).memory :=
  (LaidIn.of_run (l:=Rows.bookTagsRow.laid) [4,5,3,2,1] 8 (by kernel_rfl) (by kernel_rfl) (by kernel_rfl) (by kernel_rfl)).met
theorem witness_row (os:Os) {H:Type} (enc:TypeId × Value→H) :
    (OpenSpec.ofChange Rows.bookTagsSpec).preRow enc Tryz.prog Tryz.f4 Rows.bookTagsRow.domain false Rows.bookTagsRow.laid ((laidWorld os).forCall (fun _ _=>0) ⟨#[],#[.slice none 0 0,.int .i64 0],[]⟩).memory #[.slice none 0 0,.int .i64 0]:=by
  have hw:(DataW.whole enc Tryz.prog ((laidWorld os).forCall (fun _ _=>0) ⟨#[],#[.slice none 0 0,.int .i64 0],[]⟩).memory Tryz.f4.params.toList Rows.bookTagsSpec.vars false (#[Value.slice none 0 0,Value.int .i64 0]:Array Value).toList 8).map (fun x=>(x.1,x.2.1)) =
      some ([.nil,.lit (.int .i64 0)],[]):=by kernel_rfl
  obtain ⟨⟨x1,x2,x3⟩,hx,hx1⟩:=Option.map_eq_some_iff.1 hw
  simp only [Prod.mk.injEq] at hx1
  obtain ⟨rfl,rfl⟩:=hx1
  exact OpenSpec.preRow_of_cond 8 hx (by kernel_rfl) (fun k hk=>by cases hk) (by kernel_rfl) (laid_met os _)
theorem lifted (os:Os) (started:os.Started) (H:Type) (enc:TypeId × Value→H) (F:Stop.Interp) :
    ReturnsInHanded {} Tryz.checked os 4 .any ((OpenSpec.ofChange Rows.bookTagsSpec).preRow enc Tryz.prog Tryz.f4 Rows.bookTagsRow.domain false Rows.bookTagsRow.laid) (((OpenSpec.ofChange Rows.bookTagsSpec).at F).post enc Tryz.prog Tryz.f4 false true false false):=by
  refine returnsInHanded_of_row (C:=Tryz.checked) (s:=(OpenSpec.ofChange Rows.bookTagsSpec)) own started (by kernel_rfl) Tryz.func4
    (witness_row_atRef (enc:=enc) (C:=Tryz.checked) false (laidWorld os) #[.slice none 0 0,.int .i64 0] rfl (by kernel_rfl) (by kernel_rfl) (by kernel_rfl) (witness_row os enc)) ?_
  intro W base args ds gs before hval0 hW _ hcond hsz hL hsh _
  have hval:∀ (j:Nat) t v,Tryz.f4.params[j]?=some t→args[j]?=some v→Value.okWide Tryz.prog W .any base t v:=hval0
  have hW':=hW
  obtain ⟨p,q,hA0,hV0,rfl,_,_⟩:=hW
  have hA:DataW.TrodAll enc Tryz.prog W 0 (fun _=>true) true Tryz.f4.params.toList args.toList ds p:=hA0
  rw [Tryz.params4] at hA hval
  obtain ⟨v0,v1,d0,d1,p0,p1,rfl,rfl,rfl,h0,h1⟩:=trodAll_two hA
  obtain ⟨rfl,rfl⟩:=trodVars_none hV0
  have hWlt:=hW'.lt
  obtain ⟨zs0,za0,zb0,zr0⟩:=La.ints_open (hval 0 23 v0 rfl rfl) h0 (fun q hq=>hWlt q (by simp [hq]))
  obtain ⟨s1,rfl,rfl,rfl,ws1⟩:=open_int Tryz.underlying3 (hval 1 3 v1 rfl rfl) h1
  clear hA0 hV0 hval0 hsz
  refine (tags_walk v0 zs0 s1 W za0 ⟨laid_tabs hL,laid_pow hL,Below.refl _ _⟩).mono ?_
  rintro e W' ⟨rfl,bel⟩
  have e1:((OpenSpec.ofChange Rows.bookTagsSpec).at F).fn H ([d0,.lit (.int .i64 s1)]++[])={ results:=[.lit (.bool true)],args:=[d0,.lit (.int .i64 s1)] }:=rfl
  refine ⟨_,rfl,La.post_below (pa:=p0++([])) (pv:=[]) hW' ?_ (fun sp hsp=>?_) (fun sp hsp=>?_) (by simp) bel rfl⟩
  · intro b sp hd;rw [e1];exact trodAll_mk1 (shut_bool Tryz.underlying4 _)
  · rw [e1];exact trodAll_mk2 (zr0 _ sp bel (fun q hq=>hsp q (by simp [hq]))) (shut_int Tryz.underlying3 ws1)
  · rw [e1];rfl
end lawBookTags
namespace lawBookTags
theorem fact_inPlace:(Rows.bookTagsRow.inPlace==Tryz.pinned.checked.prog.inPlace 4)=true:=by kernel_rfl
theorem fact_unfollowed:(Rows.bookTagsRow.unfollowed==Tryz.pinned.checked.prog.unfollowed 4)=true:=by kernel_rfl
theorem fact_recurses:(Rows.bookTagsRow.recurses==Tryz.pinned.checked.prog.recurses 4)=true:=by kernel_rfl
theorem fact_named:(Rows.bookTagsRow.named==Tryz.pinned.checked.prog.varsNamed 4)=true:=by kernel_rfl
end lawBookTags
namespace lawBookTags
open Go.Lib Go.RowKit Go.Shelf Go.ChangeShapes Go.WideShapes Go.ChangeAt Ch Bo
open Go.ChangeMaps (open_string shut_string)
theorem closed:joinedFacts Tryz.pinned.checked.prog 4 Tryz.f4 (OpenSpec.ofChange Rows.bookTagsSpec).bare Rows.bookTagsRow=true:=by
  unfold joinedFacts
  rw [fact_inPlace,fact_unfollowed,fact_recurses,fact_named]
  kernel_rfl
theorem said:Rows.BookTagsSaid :=
  OpenClaim.holds_of_cond 4 Tryz.f4 rfl rfl rfl rfl rfl rfl rfl ⟨rfl,rfl,rfl,rfl,rfl⟩ rfl rfl rfl rfl rfl (by kernel_rfl) Tryz.func4 closed
    (of_decide_eq_true (by kernel_rfl)) (by unfold Func.isWrapper;rw [if_neg (of_decide_eq_false (by kernel_rfl))];exact ⟨rfl,rfl⟩)
    (fun os started H enc _ F=>by rw [OpenClaim.pre_eq_preRow];exact lifted os started H enc F)
open Go.ChangeMaps (open_string shut_string)
theorem plain (f:FuncId) (fn:Func) (hf:Tryz.pinned.checked.prog.funcNamed Rows.bookTagsRow.func=some f) (hfn:Tryz.pinned.checked.prog.funcs[f]?=some fn) :
    false=Tryz.pinned.checked.prog.looks []∧∀ (j:Nat) t,fn.params[j]?=some t→Tryz.pinned.checked.prog.wantsStandIn t=false:=by
  obtain rfl:f=4:=Option.some.inj ((show Tryz.prog.funcNamed Rows.bookTagsRow.func=some 4 by kernel_rfl).symm.trans hf) |>.symm
  obtain rfl:fn=Tryz.f4:=(Option.some.inj (Tryz.func4.symm.trans hfn)).symm
  refine ⟨by kernel_rfl,fun j t ht=>?_⟩
  rw [Tryz.params4] at ht
  have ht':t=23∨t=3:=by simpa using Array.mem_of_getElem? ht
  rcases ht' with rfl | rfl
  · exact (show Tryz.prog.wantsStandIn 23=false by kernel_rfl)
  · exact (show Tryz.prog.wantsStandIn 3=false by kernel_rfl)
theorem card:Rows.BookTagsCardSaid :=
  Claim7.holds_tied_plain_at .later [] _ _ _ _ said (fun _ h=>by cases h) (by kernel_rfl) (fun _ h=>by cases h) bookTags_row_tie rfl ⟨rfl,rfl⟩ (by kernel_rfl) rfl plain (by kernel_rfl)
end lawBookTags
end Go.Proofs.YtobfaibofhmpgaaGreatDoor
