/- For every list of plays, every play and every number RuleParts returns true, and its arguments read afterwards as before: the whole card, tied to the tables of the program. No condition. -/
import Derived.Test.YtknnagbemkdlgaaGreatDoorQCardBase
import Derived.Test.YtknnagbemkdlgaaGreatDoorPC
set_option linter.unusedSimpArgs false
set_option linter.unusedVariables false
namespace Go.Proofs.YtknnagbemkdlgaaGreatDoor.rulePartsC
open Go.ChangeShapes Go.WideShapes Go.ChangeAt Go.RowKit Go.Lib Go.Ev Go.Joins Go.Deep Go.Proofs.YtknnagbemkdlgaaGreatDoor.base
set_option maxRecDepth 100000 in
theorem awc (H:Type) (enc:TypeId×Value→H) (W:World) (base:Nat) (args:Array Value) (ds gs:List (DataW H)) (before:List MemPlace)
  (hval:∀(j:Nat) t v,Tryz.f3.params[j]? = some t→args[j]? = some v→Value.okWide Tryz.prog W .any base t v)
  (hW:DataW.Whole enc Tryz.prog Tryz.f3.params.toList Rows.rulePartsSpec.vars false W args.toList ds gs before) (hL:laidMetH Tryz.prog Rows.rulePartsRow.laid W) :
  Calls Tryz.prog 3 args W fun e W'=>∃v,e=.returned v∧Rows.rulePartsSpec.post enc Tryz.prog Tryz.f3 false true false false W args v W':=by
 have hW':=hW
 obtain⟨p,q,hA0,hV,rfl,hfz,hnd⟩:=hW
 have hA:DataW.TrodAll enc Tryz.prog W 0 (fun _=>true) true Tryz.f3.params.toList args.toList ds p:=hA0
 rw [Tryz.params3]at hA hval
 obtain⟨v0,vs0,d0,ds0,p0,q0,hargs,rfl,rfl,h0,r0⟩:=trodAll_cons hA
 obtain⟨v1,vs1,d1,ds1,p1,q1,rfl,rfl,rfl,h1,r1⟩:=trodAll_cons r0
 obtain⟨v2,vs2,d2,ds2,p2,q2,rfl,rfl,rfl,h2,r2⟩:=trodAll_cons r1
 obtain⟨rfl,rfl,rfl⟩:=trodAll_nil r2
 obtain rfl:args=#[v0,v1,v2]:=by cases args;simp_all
 obtain⟨rfl,rfl⟩:=trodVars_none hV
 obtain⟨e0,hr0,hf0⟩:=aqs (n:=9) (k:=(.l [.s,.s,.b,.l [.i .i64,.i .i64,.b,.s,.l [.i .i64]]])) (by kernel_rfl) (by kernel_rfl) (hval 0 22 v0 rfl rfl) h0
 obtain⟨x0,hx0⟩:=(KC.list (KR.iso (KR.cons KC.str (KR.cons KC.str (KR.cons KC.bool (KR.cons (KC.list (KR.iso (KR.cons (KC.int _) (KR.cons (KC.int _) (KR.cons KC.bool (KR.cons KC.str (KR.cons (KC.list (KR.iso (KR.cons (KC.int _) KR.nil))) KR.nil))))))) KR.nil))))):KC (Cod.list pl0 rPl) (.l [.s,.s,.b,.l [.i .i64,.i .i64,.b,.s,.l [.i .i64]]])) e0 hf0
 subst hx0
 obtain⟨e1,hr1,hf1⟩:=awB (n:=9) (ks:=[.s,.s,.b,.l [.i .i64,.i .i64,.b,.s,.l [.i .i64]]]) (by kernel_rfl) (by kernel_rfl) (hval 1 25 v1 rfl rfl) h1
 obtain⟨x1,hx1⟩:=(KR.iso (KR.cons KC.str (KR.cons KC.str (KR.cons KC.bool (KR.cons (KC.list (KR.iso (KR.cons (KC.int _) (KR.cons (KC.int _) (KR.cons KC.bool (KR.cons KC.str (KR.cons (KC.list (KR.iso (KR.cons (KC.int _) KR.nil))) KR.nil))))))) KR.nil)))):KR rPl [.s,.s,.b,.l [.i .i64,.i .i64,.b,.s,.l [.i .i64]]]) e1 hf1
 subst hx1
 obtain⟨e2,hr2,hf2⟩:=aqs (n:=9) (k:=(.i .u8)) (by kernel_rfl) (by kernel_rfl) (hval 2 5 v2 rfl rfl) h2
 obtain⟨x2,hx2⟩:=(KC.int _:KC cU8 (.i .u8)) e2 hf2
 subst hx2
 clear hA0
 simp only [List.append_nil,List.nil_append]at hW'
 have hlt0:∀x∈p0,x.block<W.heap.size:=fun x hx=>hW'.lt x (by simp [hx])
 have hlt1:∀x∈p1,x.block<W.heap.size:=fun x hx=>hW'.lt x (by simp [hx])
 have hlt2:∀x∈p2,x.block<W.heap.size:=fun x hx=>hW'.lt x (by simp [hx])
 have G:GRel W.heap.size W gT:=gLaid hL
 have e4:fOf Aq3 cB Sq3 [((Cod.list pl0 rPl).v x0).c,.agg (V.cs (rPl.v x1)),(cU8.v x2).c]=some (.bool true):=by
  show fOf Aq3 cB Sq3 (V.cs (Aq3.v (x0,x1,x2,())))=_
  unfold fOf
  rw [Aq3.rt,Option.bind_some,law11 x0 x1 x2 (plsY hf0) (plY hf1).1 (plY hf1).2 (suit_u8 hf2)];rfl
 refine(Kq3.ok W.heap.size ⟨W,dM W⟩ G _ _ e4 _ (dM W) W (.cons _ _ _ _ hr0 (.cons _ _ _ _ hr1 (.cons _ _ _ _ hr2 .nil))) (qM W) (Below.refl _ _) (Nat.le_refl _)).mono ?_
 rintro e W' ⟨u,φ,rfl,hu,hg,-⟩
 cases hu
 have hfn:Rows.rulePartsSpec.fn H ([d0,d1,d2]++[])={ results:=[.lit (.bool true)],args:=[d0,d1,d2] }:=rfl
 have hrt:Tryz.f3.resultTypes=#[4]:=rfl
 have k1:∀(b:Nat) (sp:Nat→Bool) (hd:Bool),DataW.TrodAll enc Tryz.prog W' b sp hd Tryz.f3.resultTypes.toList ((Value.bool true).resultList Tryz.f3.resultTypes.size) (Rows.rulePartsSpec.fn H ([d0,d1,d2]++[])).results []:=by
  intro b sp hd
  rw [hfn,hrt]
  exact trodAll_cons_mk (shut_bool Tryz.underlying4 _) trodAll_mk0
 have k2:∀sp:Nat→Bool,(∀x∈p0++(p1++p2),sp x.block=true)→DataW.TrodAll enc Tryz.prog W' 0 sp true Tryz.f3.params.toList [v0,v1,v2] (Rows.rulePartsSpec.fn H ([d0,d1,d2]++[])).args (p0++(p1++p2)):=by
  intro sp hsp
  have hsp0:∀x∈p0,sp x.block=true:=fun x hx=>hsp x (by simp [hx])
  have hsp1:∀x∈p1,sp x.block=true:=fun x hx=>hsp x (by simp [hx])
  have hsp2:∀x∈p2,sp x.block=true:=fun x hx=>hsp x (by simp [hx])
  rw [hfn,Tryz.params3]
  have q:=(trodAll_cons_mk (Go.WideElems.Trod_stays zW (by kernel_rfl) (of_decide_eq_true (by kernel_rfl)) h0 (fun x hx=>hg.same (hlt0 x hx)) hsp0) (trodAll_cons_mk (Go.WideElems.Trod_stays zW (by kernel_rfl) (of_decide_eq_true (by kernel_rfl)) h1 (fun x hx=>hg.same (hlt1 x hx)) hsp1) (trodAll_cons_mk (Go.WideElems.Trod_stays zW (by kernel_rfl) (of_decide_eq_true (by kernel_rfl)) h2 (fun x hx=>hg.same (hlt2 x hx)) hsp2) trodAll_mk0)))
  simpa only [List.append_nil,List.nil_append]using q
 have k4:∀(j:Nat) (t:TypeId) (r:Value),Tryz.f3.resultTypes[j]? = some t→((Value.bool true).resultList Tryz.f3.resultTypes.size)[j]? = some r→Value.okWide Tryz.prog W' .any 0 t r:=ok_one (f:=Tryz.f3) hrt rfl (okWide_bool_mk Tryz.underlying4 _)
 exact⟨_,rfl,uK (pa:=p0++(p1++p2)) (pv:=[]) hW' k1 k2 (fun _ _=>rfl) (List.append_nil _).symm hg k4⟩
def awn:Array Value:=#[.slice none 0 0,.agg #[.string ⟨#[]⟩,.string ⟨#[]⟩,.bool false,.slice none 0 0],.int .u8 0]
theorem laid_met (os:Os):laidMet Tryz.prog Rows.rulePartsRow.laid ((qC os).forCall (fun _ _=>0) ⟨#[],awn,[]⟩).memory:=
 laidMet_of_run' 8 (by kernel_rfl) (by kernel_rfl)
theorem reads (os:Os) {H:Type}(enc:TypeId×Value→H):∃places,DataW.whole enc Tryz.prog ((qC os).forCall (fun _ _=>0) ⟨#[],awn,[]⟩).memory Tryz.f3.params.toList Rows.rulePartsSpec.vars false awn.toList 8=some ([.nil,.agg [.lit (.string []),.lit (.string []),.lit (.bool false),.nil],.lit (.int .u8 0)],[],places):=
 ⟨[],by kernel_rfl⟩
set_option maxRecDepth 100000 in
theorem lifted (os:Os) (started:os.Started) (H:Type) (enc:TypeId×Value→H) (F:Stop.Interp) :
  ReturnsInHanded {} Tryz.checked os 3 .any ((OpenSpec.ofChange Rows.rulePartsSpec).preRow enc Tryz.prog Tryz.f3 Rows.rulePartsRow.domain false Rows.rulePartsRow.laid) (((OpenSpec.ofChange Rows.rulePartsSpec).at F).post enc Tryz.prog Tryz.f3 false true false false):=by
 obtain⟨places,hx⟩:=reads os enc
 refine returnsInHanded_of_row (C:=Tryz.checked) (s:=OpenSpec.ofChange Rows.rulePartsSpec) own started (by kernel_rfl) Tryz.func3
  (witness_row_at (enc:=enc) (C:=Tryz.checked) false (qC os) awn rfl (by kernel_rfl) (by kernel_rfl) (by kernel_rfl)
   (OpenSpec.preRow_of_cond 8 hx (by kernel_rfl) (fun k hk=>by cases hk) (by kernel_rfl) (laid_met os))) ?_
 intro W base args ds gs before hval hW _ _ _ hL _ _
 exact awc H enc W base args ds gs before hval hW hL
theorem said:Rows.RulePartsSaid:=
 OpenClaim.holds_of_cond 3 Tryz.f3 rfl rfl rfl rfl rfl rfl rfl ⟨rfl,rfl,rfl,rfl,rfl⟩ rfl rfl rfl rfl rfl (by kernel_rfl) Tryz.func3 (by kernel_rfl)
  (of_decide_eq_true (by kernel_rfl)) (by unfold Func.isWrapper;first|(rw [if_pos (by decide +kernel)];kernel_rfl)|(rw [if_neg (by decide +kernel)];exact⟨rfl,rfl⟩))
  (fun os started H enc _ F=>by rw [OpenClaim.pre_eq_preRow];exact lifted os started H enc F)
theorem plain (f:FuncId) (fn:Func) (hf:Tryz.pinned.checked.prog.funcNamed Rows.rulePartsRow.func=some f) (hfn:Tryz.pinned.checked.prog.funcs[f]? = some fn) :
  false=Tryz.pinned.checked.prog.looks []∧∀(j:Nat) t,fn.params[j]? = some t→Tryz.pinned.checked.prog.wantsStandIn t=false:=by
 obtain rfl:f=3:=Option.some.inj ((show Tryz.prog.funcNamed Rows.rulePartsRow.func=some 3 by kernel_rfl).symm.trans hf) |>.symm
 obtain rfl:fn=Tryz.f3:=(Option.some.inj (Tryz.func3.symm.trans hfn)).symm
 refine⟨by kernel_rfl,fun j t ht=>?_⟩
 rw [Tryz.params3]at ht
 have hm:t=22∨t=25∨t=5:=by simpa using Array.mem_of_getElem? ht
 rcases hm with rfl|rfl|rfl
 · exact(show Tryz.prog.wantsStandIn 22=false by kernel_rfl)
 · exact(show Tryz.prog.wantsStandIn 25=false by kernel_rfl)
 · exact(show Tryz.prog.wantsStandIn 5=false by kernel_rfl)
theorem card:Rows.RulePartsCardSaid:=
 Claim7.holds_tied_plain_at .later [] _ _ _ _ said (fun _ h=>by cases h) (by kernel_rfl) (fun _ h=>by cases h) ruleParts_row_tie rfl ⟨rfl,rfl⟩ (by kernel_rfl) rfl plain (by kernel_rfl)
end Go.Proofs.YtknnagbemkdlgaaGreatDoor.rulePartsC
namespace Go.Proofs.YtknnagbemkdlgaaGreatDoor
theorem ruleParts_holds:Rows.RulePartsCardSaid:=rulePartsC.card
end Go.Proofs.YtknnagbemkdlgaaGreatDoor
