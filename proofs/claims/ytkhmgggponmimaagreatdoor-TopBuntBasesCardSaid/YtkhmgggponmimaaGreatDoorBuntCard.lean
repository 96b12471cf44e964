/- For every list of plays TopBuntBases returns true, and its arguments read afterwards as before: the whole card, tied to the tables of the program. No condition. -/
import Derived.Test.YtkhmgggponmimaaGreatDoorBCardBase
import Derived.Test.YtkhmgggponmimaaGreatDoorTBC
set_option linter.unusedSimpArgs false
set_option linter.unusedVariables false
namespace Go.Proofs.YtkhmgggponmimaaGreatDoor.topBuntBasesC
open Go.ChangeShapes Go.WideShapes Go.ChangeAt Go.RowKit Go.Lib Go.Ev Go.Joins Go.Deep Go.Proofs.YtkhmgggponmimaaGreatDoor.base
set_option maxRecDepth 100000 in
theorem ayV (H:Type) (enc:TypeId×Value→H) (W:World) (base:Nat) (args:Array Value) (ds gs:List (DataW H)) (before:List MemPlace)
  (hval:∀(j:Nat) t v,Tryz.f3.params[j]? = some t→args[j]? = some v→Value.okWide Tryz.prog W .any base t v)
  (hW:DataW.Whole enc Tryz.prog Tryz.f3.params.toList Rows.topBuntBasesSpec.vars false W args.toList ds gs before) (hL:laidMetH Tryz.prog Rows.topBuntBasesRow.laid W) :
  Calls Tryz.prog 3 args W fun e W'=>∃v,e=.returned v∧Rows.topBuntBasesSpec.post enc Tryz.prog Tryz.f3 false true false false W args v W':=by
 have hW':=hW
 obtain⟨p,q,hA0,hV,rfl,hfz,hnd⟩:=hW
 have hA:DataW.TrodAll enc Tryz.prog W 0 (fun _=>true) true Tryz.f3.params.toList args.toList ds p:=hA0
 rw [Tryz.params3]at hA hval
 obtain⟨v0,vs0,d0,ds0,p0,q0,hargs,rfl,rfl,h0,r0⟩:=trodAll_cons hA
 obtain⟨rfl,rfl,rfl⟩:=trodAll_nil r0
 obtain rfl:args=#[v0]:=by cases args;simp_all
 obtain⟨rfl,rfl⟩:=trodVars_none hV
 obtain⟨e0,hr0,hf0⟩:=awf (n:=9) (k:=(.l [.s,.s,.b,.l [.i .i64,.i .i64,.b,.s,.l [.i .i64]]])) (by kernel_rfl) (by kernel_rfl) (hval 0 22 v0 rfl rfl) h0
 obtain⟨x0,hx0⟩:=(KC.list (KR.iso (KR.cons KC.str (KR.cons KC.str (KR.cons KC.bool (KR.cons (KC.list (KR.iso (KR.cons (KC.int _) (KR.cons (KC.int _) (KR.cons KC.bool (KR.cons KC.str (KR.cons (KC.list (KR.iso (KR.cons (KC.int _) KR.nil))) KR.nil))))))) KR.nil))))):KC (Cod.list pl0 rPl) (.l [.s,.s,.b,.l [.i .i64,.i .i64,.b,.s,.l [.i .i64]]])) e0 hf0
 subst hx0
 clear hA0
 simp only [List.append_nil,List.nil_append]at hW'
 have hlt0:∀x∈p0,x.block<W.heap.size:=fun x hx=>hW'.lt x (by simp [hx])
 have G:GRel W.heap.size W gT:=gLaid hL
 have e4:fOf Ap3 cB Sp3 [((Cod.list pl0 rPl).v x0).c]=some (.bool true):=by
  show fOf Ap3 cB Sp3 (V.cs (Ap3.v (x0,())))=_
  unfold fOf
  rw [Ap3.rt,Option.bind_some,law3 x0 (plsY hf0)];rfl
 refine(Kp3.ok W.heap.size ⟨W,dO W⟩ G _ _ e4 _ (dO W) W (.cons _ _ _ _ hr0 .nil) (rB W) (Below.refl _ _) (Nat.le_refl _)).mono ?_
 rintro e W' ⟨u,φ,rfl,hu,hg,-⟩
 cases hu
 have hfn:Rows.topBuntBasesSpec.fn H ([d0]++[])={ results:=[.lit (.bool true)],args:=[d0] }:=rfl
 have hrt:Tryz.f3.resultTypes=#[4]:=rfl
 have k1:∀(b:Nat) (sp:Nat→Bool) (hd:Bool),DataW.TrodAll enc Tryz.prog W' b sp hd Tryz.f3.resultTypes.toList ((Value.bool true).resultList Tryz.f3.resultTypes.size) (Rows.topBuntBasesSpec.fn H ([d0]++[])).results []:=by
  intro b sp hd
  rw [hfn,hrt]
  exact trodAll_cons_mk (shut_bool Tryz.underlying4 _) trodAll_mk0
 have k2:∀sp:Nat→Bool,(∀x∈p0,sp x.block=true)→DataW.TrodAll enc Tryz.prog W' 0 sp true Tryz.f3.params.toList [v0] (Rows.topBuntBasesSpec.fn H ([d0]++[])).args (p0):=by
  intro sp hsp
  have hsp0:∀x∈p0,sp x.block=true:=fun x hx=>hsp x (by simp [hx])
  rw [hfn,Tryz.params3]
  have q:=(trodAll_cons_mk (Go.WideElems.Trod_stays laidOut (by kernel_rfl) (of_decide_eq_true (by kernel_rfl)) h0 (fun x hx=>hg.same (hlt0 x hx)) hsp0) trodAll_mk0)
  simpa only [List.append_nil,List.nil_append]using q
 have k4:∀(j:Nat) (t:TypeId) (r:Value),Tryz.f3.resultTypes[j]? = some t→((Value.bool true).resultList Tryz.f3.resultTypes.size)[j]? = some r→Value.okWide Tryz.prog W' .any 0 t r:=ok_one (f:=Tryz.f3) hrt rfl (okWide_bool_mk Tryz.underlying4 _)
 exact⟨_,rfl,vD (pa:=p0) (pv:=[]) hW' k1 k2 (fun _ _=>rfl) (List.append_nil _).symm hg k4⟩
def ay7:Array Value:=#[.slice none 0 0]
theorem laid_met (os:Os):laidMet Tryz.prog Rows.topBuntBasesRow.laid ((qU os).forCall (fun _ _=>0) ⟨#[],ay7,[]⟩).memory:=
 laidMet_of_run' 8 (by kernel_rfl) (by kernel_rfl)
theorem reads (os:Os) {H:Type}(enc:TypeId×Value→H):∃places,DataW.whole enc Tryz.prog ((qU os).forCall (fun _ _=>0) ⟨#[],ay7,[]⟩).memory Tryz.f3.params.toList Rows.topBuntBasesSpec.vars false ay7.toList 8=some ([.nil],[],places):=
 ⟨[],by kernel_rfl⟩
set_option maxRecDepth 100000 in
theorem lifted (os:Os) (started:os.Started) (H:Type) (enc:TypeId×Value→H) (F:Stop.Interp) :
  ReturnsInHanded {} Tryz.checked os 3 .any ((OpenSpec.ofChange Rows.topBuntBasesSpec).preRow enc Tryz.prog Tryz.f3 Rows.topBuntBasesRow.domain false Rows.topBuntBasesRow.laid) (((OpenSpec.ofChange Rows.topBuntBasesSpec).at F).post enc Tryz.prog Tryz.f3 false true false false):=by
 obtain⟨places,hx⟩:=reads os enc
 refine returnsInHanded_of_row (C:=Tryz.checked) (s:=OpenSpec.ofChange Rows.topBuntBasesSpec) own started (by kernel_rfl) Tryz.func3
  (witness_row_at (enc:=enc) (C:=Tryz.checked) false (qU os) ay7 rfl (by kernel_rfl) (by kernel_rfl) (by kernel_rfl)
   (OpenSpec.preRow_of_cond 8 hx (by kernel_rfl) (fun k hk=>by cases hk) (by kernel_rfl) (laid_met os))) ?_
 intro W base args ds gs before hval hW _ _ _ hL _ _
 exact ayV H enc W base args ds gs before hval hW hL
theorem said:Rows.TopBuntBasesSaid:=
 OpenClaim.holds_of_cond 3 Tryz.f3 rfl rfl rfl rfl rfl rfl rfl ⟨rfl,rfl,rfl,rfl,rfl⟩ rfl rfl rfl rfl rfl (by kernel_rfl) Tryz.func3 (by kernel_rfl)
  (of_decide_eq_true (by kernel_rfl)) (by unfold Func.isWrapper;first|(rw [if_pos (by decide +kernel)];kernel_rfl)|(rw [if_neg (by decide +kernel)];exact⟨rfl,rfl⟩))
  (fun os started H enc _ F=>by rw [OpenClaim.pre_eq_preRow];exact lifted os started H enc F)
theorem plain (f:FuncId) (fn:Func) (hf:Tryz.pinned.checked.prog.funcNamed Rows.topBuntBasesRow.func=some f) (hfn:Tryz.pinned.checked.prog.funcs[f]? = some fn) :
  false=Tryz.pinned.checked.prog.looks []∧∀(j:Nat) t,fn.params[j]? = some t→Tryz.pinned.checked.prog.wantsStandIn t=false:=by
 obtain rfl:f=3:=Option.some.inj ((show Tryz.prog.funcNamed Rows.topBuntBasesRow.func=some 3 by kernel_rfl).symm.trans hf) |>.symm
 obtain rfl:fn=Tryz.f3:=(Option.some.inj (Tryz.func3.symm.trans hfn)).symm
 refine⟨by kernel_rfl,fun j t ht=>?_⟩
 rw [Tryz.params3]at ht
 obtain rfl:t=22:=by simpa using Array.mem_of_getElem? ht
 exact(show Tryz.prog.wantsStandIn 22=false by kernel_rfl)
theorem card:Rows.TopBuntBasesCardSaid:=
 Claim7.holds_tied_plain_at .later [] _ _ _ _ said (fun _ h=>by cases h) (by kernel_rfl) (fun _ h=>by cases h) topBuntBases_row_tie rfl ⟨rfl,rfl⟩ (by kernel_rfl) rfl plain (by kernel_rfl)
end Go.Proofs.YtkhmgggponmimaaGreatDoor.topBuntBasesC
namespace Go.Proofs.YtkhmgggponmimaaGreatDoor
theorem topBuntBases_holds:Rows.TopBuntBasesCardSaid:=topBuntBasesC.card
end Go.Proofs.YtkhmgggponmimaaGreatDoor
