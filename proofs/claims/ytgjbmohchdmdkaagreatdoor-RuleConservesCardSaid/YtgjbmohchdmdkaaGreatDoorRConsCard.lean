/- For every state and every play RuleConserves returns true, and its arguments read afterwards as before: the whole card, tied to the tables of the program. No condition. -/
import Derived.Test.YtgjbmohchdmdkaaGreatDoorCardBase
import Derived.Test.YtgjbmohchdmdkaaGreatDoorLawRCons
import Derived.Test.YtgjbmohchdmdkaaGreatDoorStOpen
import Derived.Test.YtgjbmohchdmdkaaGreatDoorStrOpen
import Derived.Test.YtgjbmohchdmdkaaGreatDoorPlayOpen
set_option linter.unusedSimpArgs false
set_option linter.unusedVariables false
namespace Go.Proofs.YtgjbmohchdmdkaaGreatDoor.ruleConservesC
open Go.ChangeShapes Go.WideShapes Go.ChangeAt Go.RowKit Go.Lib Go.Ev Go.Joins Go.Deep Go.Proofs.YtgjbmohchdmdkaaGreatDoor.base
set_option maxRecDepth 100000 in
theorem bqy (H:Type) (enc:TypeId×Value→H) (W:World) (base:Nat) (args:Array Value) (ds gs:List (DataW H)) (before:List MemPlace)
  (hval:∀(j:Nat) t v,Tryz.f9.params[j]? = some t→args[j]? = some v→Value.okWide Tryz.prog W .any base t v)
  (hW:DataW.Whole enc Tryz.prog Tryz.f9.params.toList Rows.ruleConservesSpec.vars false W args.toList ds gs before) (hL:laidMetH Tryz.prog Rows.ruleConservesRow.laid W) :
  Calls Tryz.prog 9 args W fun e W'=>∃v,e=.returned v∧Rows.ruleConservesSpec.post enc Tryz.prog Tryz.f9 false true false false W args v W':=by
 have hW':=hW
 obtain⟨p,q,hA0,hV,rfl,hfz,hnd⟩:=hW
 have hA:DataW.TrodAll enc Tryz.prog W 0 (fun _=>true) true Tryz.f9.params.toList args.toList ds p:=hA0
 rw [Tryz.params9]at hA hval
 obtain⟨v0,vs0,d0,ds0,p0,q0,hargs,rfl,rfl,h0,r0⟩:=trodAll_cons hA
 obtain⟨v1,vs1,d1,ds1,p1,q1,rfl,rfl,rfl,h1,r1⟩:=trodAll_cons r0
 obtain⟨rfl,rfl,rfl⟩:=trodAll_nil r1
 obtain rfl:args=#[v0,v1]:=by cases args;simp_all
 obtain⟨rfl,rfl⟩:=trodVars_none hV
 obtain⟨s0,hr0⟩:=avD (hval 0 25 v0 rfl rfl) h0
 obtain⟨s1,e1,late1,l1,hr1,hl1,hok1⟩:=awE (hval 1 56 v1 rfl rfl) h1
 clear hA0
 simp only [List.append_nil,List.nil_append]at hW'
 have hlt0:∀x∈p0,x.block<W.heap.size:=fun x hx=>hW'.lt x (by simp [hx])
 have hlt1:∀x∈p1,x.block<W.heap.size:=fun x hx=>hW'.lt x (by simp [hx])
 have G:GRel W.heap.size W gT:=GRel.of_laid gWays aw1 ayy (jS (jS (jS hL)))
 have e4:F9 [.agg (eSt s0),.agg [.str (s1.data.toList.map UInt8.toNat),.str (e1.data.toList.map UInt8.toNat),.bool late1,.lsl (lY l1)]]=some (.bool true):=by
  exact F9_e (t:=⟨_,_,late1,l1⟩) (az2 s1) (az2 e1)
 refine(fn9 W.heap.size ⟨W,dV W⟩ G _ _ e4 _ (dV W) W (.cons _ _ _ _ (hr0) (.cons _ _ _ _ (hr1) .nil)) (sX W) (Below.refl _ _) (Nat.le_refl _)).mono ?_
 rintro e W' ⟨u,φ,rfl,hu,hg,-⟩
 cases hu
 have hfn:Rows.ruleConservesSpec.fn H ([d0,d1]++[])={ results:=[.lit (.bool true)],args:=[d0,d1] }:=rfl
 have hrt:Tryz.f9.resultTypes=#[4]:=rfl
 have k1:∀(b:Nat) (sp:Nat→Bool) (hd:Bool),DataW.TrodAll enc Tryz.prog W' b sp hd Tryz.f9.resultTypes.toList ((Value.bool true).resultList Tryz.f9.resultTypes.size) (Rows.ruleConservesSpec.fn H ([d0,d1]++[])).results []:=by
  intro b sp hd
  rw [hfn,hrt]
  exact trodAll_cons_mk (shut_bool Tryz.underlying4 _) trodAll_mk0
 have k2:∀sp:Nat→Bool,(∀x∈p0++p1,sp x.block=true)→DataW.TrodAll enc Tryz.prog W' 0 sp true Tryz.f9.params.toList [v0,v1] (Rows.ruleConservesSpec.fn H ([d0,d1]++[])).args (p0++p1):=by
  intro sp hsp
  have hsp0:∀x∈p0,sp x.block=true:=fun x hx=>hsp x (by simp [hx])
  have hsp1:∀x∈p1,sp x.block=true:=fun x hx=>hsp x (by simp [hx])
  rw [hfn,Tryz.params9]
  have q:=trodAll_cons_mk (azu h0 hg hlt0 hsp0) (trodAll_cons_mk (akS h1 hg hlt1 hsp1) trodAll_mk0)
  simpa only [List.append_nil,List.nil_append]using q
 have k4:∀(j:Nat) (t:TypeId) (r:Value),Tryz.f9.resultTypes[j]? = some t→((Value.bool true).resultList Tryz.f9.resultTypes.size)[j]? = some r→Value.okWide Tryz.prog W' .any 0 t r:=ok_one (f:=Tryz.f9) hrt rfl (okWide_bool_mk Tryz.underlying4 _)
 exact⟨_,rfl,xK (pa:=p0++p1) (pv:=[]) hW' k1 k2 (fun _ _=>rfl) (List.append_nil _).symm hg k4⟩
def bjI:Array Value:=#[.agg #[.int .i64 0,.int .i64 0,.int .i64 0,.int .i64 0,.int .i64 0,.int .i64 0,.int .i64 0,.int .i64 0,.int .i64 0,.int .i64 0,.int .i64 0,.int .i64 0,.bool false],.agg #[.string ⟨#[]⟩,.string ⟨#[]⟩,.bool false,.slice none 0 0]]
theorem laid_met (os:Os):laidMet Tryz.prog Rows.ruleConservesRow.laid ((sP os).forCall (fun _ _=>0) ⟨#[],bjI,[]⟩).memory:=
 laidMet_of_run' 8 (by kernel_rfl) (by kernel_rfl)
theorem reads (os:Os) {H:Type}(enc:TypeId×Value→H):∃places,DataW.whole enc Tryz.prog ((sP os).forCall (fun _ _=>0) ⟨#[],bjI,[]⟩).memory Tryz.f9.params.toList Rows.ruleConservesSpec.vars false bjI.toList 8=some ([.agg [.lit (.int .i64 0),.lit (.int .i64 0),.lit (.int .i64 0),.lit (.int .i64 0),.lit (.int .i64 0),.agg [.lit (.int .i64 0),.lit (.int .i64 0),.lit (.int .i64 0)],.agg [.lit (.int .i64 0),.lit (.int .i64 0)],.agg [.lit (.int .i64 0),.lit (.int .i64 0)],.lit (.bool false)],.agg [.lit (.string []),.lit (.string []),.lit (.bool false),.nil]],[],places):=
 ⟨[],by kernel_rfl⟩
set_option maxRecDepth 100000 in
theorem lifted (os:Os) (started:os.Started) (H:Type) (enc:TypeId×Value→H) (F:Stop.Interp) :
  ReturnsInHanded {} Tryz.checked os 9 .any ((OpenSpec.ofChange Rows.ruleConservesSpec).preRow enc Tryz.prog Tryz.f9 Rows.ruleConservesRow.domain false Rows.ruleConservesRow.laid) (((OpenSpec.ofChange Rows.ruleConservesSpec).at F).post enc Tryz.prog Tryz.f9 false true false false):=by
 obtain⟨places,hx⟩:=reads os enc
 refine returnsInHanded_of_row (C:=Tryz.checked) (s:=OpenSpec.ofChange Rows.ruleConservesSpec) own started (by kernel_rfl) Tryz.func9
  (witness_row_at (enc:=enc) (C:=Tryz.checked) false (sP os) bjI rfl (by kernel_rfl) (by kernel_rfl) (by kernel_rfl)
   (OpenSpec.preRow_of_cond 8 hx (by kernel_rfl) (fun k hk=>by cases hk) (by kernel_rfl) (laid_met os))) ?_
 intro W base args ds gs before hval hW _ _ _ hL _ _
 exact bqy H enc W base args ds gs before hval hW hL
theorem said:Rows.RuleConservesSaid:=
 OpenClaim.holds_of_cond 9 Tryz.f9 rfl rfl rfl rfl rfl rfl rfl ⟨rfl,rfl,rfl,rfl,rfl⟩ rfl rfl rfl rfl rfl (by kernel_rfl) Tryz.func9 (by kernel_rfl)
  (of_decide_eq_true (by kernel_rfl)) (by unfold Func.isWrapper;first|(rw [if_pos (by decide +kernel)];kernel_rfl)|(rw [if_neg (by decide +kernel)];exact⟨rfl,rfl⟩))
  (fun os started H enc _ F=>by rw [OpenClaim.pre_eq_preRow];exact lifted os started H enc F)
theorem plain (f:FuncId) (fn:Func) (hf:Tryz.pinned.checked.prog.funcNamed Rows.ruleConservesRow.func=some f) (hfn:Tryz.pinned.checked.prog.funcs[f]? = some fn) :
  false=Tryz.pinned.checked.prog.looks []∧∀(j:Nat) t,fn.params[j]? = some t→Tryz.pinned.checked.prog.wantsStandIn t=false:=by
 obtain rfl:f=9:=Option.some.inj ((show Tryz.prog.funcNamed Rows.ruleConservesRow.func=some 9 by kernel_rfl).symm.trans hf) |>.symm
 obtain rfl:fn=Tryz.f9:=(Option.some.inj (Tryz.func9.symm.trans hfn)).symm
 refine⟨by kernel_rfl,fun j t ht=>?_⟩
 rw [Tryz.params9]at ht
 have hm:t=25∨t=56:=by simpa using Array.mem_of_getElem? ht
 rcases hm with rfl|rfl
 · exact(show Tryz.prog.wantsStandIn 25=false by kernel_rfl)
 · exact(show Tryz.prog.wantsStandIn 56=false by kernel_rfl)
theorem card:Rows.RuleConservesCardSaid:=
 Claim7.holds_tied_plain_at .later [] _ _ _ _ said (fun _ h=>by cases h) (by kernel_rfl) (fun _ h=>by cases h) ruleConserves_row_tie rfl ⟨rfl,rfl⟩ (by kernel_rfl) rfl plain (by kernel_rfl)
end Go.Proofs.YtgjbmohchdmdkaaGreatDoor.ruleConservesC
namespace Go.Proofs.YtgjbmohchdmdkaaGreatDoor
theorem ruleConserves_holds:Rows.RuleConservesCardSaid:=ruleConservesC.card
end Go.Proofs.YtgjbmohchdmdkaaGreatDoor
