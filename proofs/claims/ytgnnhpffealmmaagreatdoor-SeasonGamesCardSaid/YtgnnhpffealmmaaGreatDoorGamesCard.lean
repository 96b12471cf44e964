/- For every list of games and every game SeasonGames returns true, and its arguments read afterwards as before: the whole card, tied to the tables of the program. No condition. -/
import Derived.Test.YtgnnhpffealmmaaGreatDoorSCardBase
import Derived.Test.YtgnnhpffealmmaaGreatDoorSgD
set_option linter.unusedSimpArgs false
set_option linter.unusedVariables false
namespace Go.Proofs.YtgnnhpffealmmaaGreatDoor.seasonGamesC
open Go.ChangeShapes Go.WideShapes Go.ChangeAt Go.RowKit Go.Lib Go.Ev Go.Joins Go.Deep Go.Proofs.YtgnnhpffealmmaaGreatDoor.base
set_option maxRecDepth 100000 in
theorem ajy (H:Type) (enc:TypeId×Value→H) (W:World) (base:Nat) (args:Array Value) (ds gs:List (DataW H)) (before:List MemPlace)
  (hval:∀(j:Nat) t v,Tryz.f3.params[j]? = some t→args[j]? = some v→Value.okWide Tryz.prog W .any base t v)
  (hW:DataW.Whole enc Tryz.prog Tryz.f3.params.toList Rows.seasonGamesSpec.vars false W args.toList ds gs before) (hL:laidMetH Tryz.prog Rows.seasonGamesRow.laid W) :
  Calls Tryz.prog 3 args W fun e W'=>∃v,e=.returned v∧Rows.seasonGamesSpec.post enc Tryz.prog Tryz.f3 false true false false W args v W':=by
 have hW':=hW
 obtain⟨p,q,hA0,hV,rfl,hfz,hnd⟩:=hW
 have hA:DataW.TrodAll enc Tryz.prog W 0 (fun _=>true) true Tryz.f3.params.toList args.toList ds p:=hA0
 rw [Tryz.params3]at hA hval
 obtain⟨v0,vs0,d0,ds0,p0,q0,hargs,rfl,rfl,h0,r0⟩:=trodAll_cons hA
 obtain⟨v1,vs1,d1,ds1,p1,q1,rfl,rfl,rfl,h1,r1⟩:=trodAll_cons r0
 obtain⟨rfl,rfl,rfl⟩:=trodAll_nil r1
 obtain rfl:args=#[v0,v1]:=by cases args;simp_all
 obtain⟨rfl,rfl⟩:=trodVars_none hV
 obtain⟨e0,hr0,hf0⟩:=aj2 (n:=9) (k:=(.l [.s,.i .i64,.i .i64,.s,.s,.i .i64,.i .i64,.l [.s,.s,.i .i64,.i .i64,.i .i64,.i .i64,.i .i64,.i .i64,.i .i64,.i .i64,.i .i64,.i .i64,.i .i64,.i .i64]])) (by kernel_rfl) (by kernel_rfl) (hval 0 22 v0 rfl rfl) h0
 obtain⟨x0,hx0⟩:=(KC.list (KR.iso (KR.cons KC.str (KR.cons (KC.int _) (KR.cons (KC.int _) (KR.cons KC.str (KR.cons KC.str (KR.cons (KC.int _) (KR.cons (KC.int _) (KR.cons (KC.list (KR.iso (KR.cons KC.str (KR.cons KC.str (KR.cons (KC.int _) (KR.cons (KC.int _) (KR.cons (KC.int _) (KR.cons (KC.int _) (KR.cons (KC.int _) (KR.cons (KC.int _) (KR.cons (KC.int _) (KR.cons (KC.int _) (KR.cons (KC.int _) (KR.cons (KC.int _) (KR.cons (KC.int _) (KR.cons (KC.int _) KR.nil)))))))))))))))) KR.nil))))))))):KC (Cod.list gm0 rGm) (.l [.s,.i .i64,.i .i64,.s,.s,.i .i64,.i .i64,.l [.s,.s,.i .i64,.i .i64,.i .i64,.i .i64,.i .i64,.i .i64,.i .i64,.i .i64,.i .i64,.i .i64,.i .i64,.i .i64]])) e0 hf0
 subst hx0
 obtain⟨e1,hr1,hf1⟩:=aj3 (n:=9) (ks:=[.s,.i .i64,.i .i64,.s,.s,.i .i64,.i .i64,.l [.s,.s,.i .i64,.i .i64,.i .i64,.i .i64,.i .i64,.i .i64,.i .i64,.i .i64,.i .i64,.i .i64,.i .i64,.i .i64]]) (by kernel_rfl) (by kernel_rfl) (hval 1 27 v1 rfl rfl) h1
 obtain⟨x1,hx1⟩:=(KR.iso (KR.cons KC.str (KR.cons (KC.int _) (KR.cons (KC.int _) (KR.cons KC.str (KR.cons KC.str (KR.cons (KC.int _) (KR.cons (KC.int _) (KR.cons (KC.list (KR.iso (KR.cons KC.str (KR.cons KC.str (KR.cons (KC.int _) (KR.cons (KC.int _) (KR.cons (KC.int _) (KR.cons (KC.int _) (KR.cons (KC.int _) (KR.cons (KC.int _) (KR.cons (KC.int _) (KR.cons (KC.int _) (KR.cons (KC.int _) (KR.cons (KC.int _) (KR.cons (KC.int _) (KR.cons (KC.int _) KR.nil)))))))))))))))) KR.nil)))))))):KR rGm [.s,.i .i64,.i .i64,.s,.s,.i .i64,.i .i64,.l [.s,.s,.i .i64,.i .i64,.i .i64,.i .i64,.i .i64,.i .i64,.i .i64,.i .i64,.i .i64,.i .i64,.i .i64,.i .i64]]) e1 hf1
 subst hx1
 clear hA0
 simp only [List.append_nil,List.nil_append]at hW'
 have hlt0:∀x∈p0,x.block<W.heap.size:=fun x hx=>hW'.lt x (by simp [hx])
 have hlt1:∀x∈p1,x.block<W.heap.size:=fun x hx=>hW'.lt x (by simp [hx])
 have G:GRel W.heap.size W gT:=gLaid hL
 have e4:fOf Az3 cB Sz3 [((Cod.list gm0 rGm).v x0).c,.agg (V.cs (rGm.v x1))]=some (.bool true):=by
  show fOf Az3 cB Sz3 (V.cs (Az3.v (x0,x1,())))=_
  unfold fOf
  rw [Az3.rt,Option.bind_some,law3 x0 x1 (gmsY hf0) (gmY hf1)];rfl
 refine(Kz3.ok W.heap.size ⟨W,bU W⟩ G _ _ e4 _ (bU W) W (.cons _ _ _ _ hr0 (.cons _ _ _ _ hr1 .nil)) (nX W) (Below.refl _ _) (Nat.le_refl _)).mono ?_
 rintro e W' ⟨u,φ,rfl,hu,hg,-⟩
 cases hu
 have hfn:Rows.seasonGamesSpec.fn H ([d0,d1]++[])={ results:=[.lit (.bool true)],args:=[d0,d1] }:=rfl
 have hrt:Tryz.f3.resultTypes=#[4]:=rfl
 have k1:∀(b:Nat) (sp:Nat→Bool) (hd:Bool),DataW.TrodAll enc Tryz.prog W' b sp hd Tryz.f3.resultTypes.toList ((Value.bool true).resultList Tryz.f3.resultTypes.size) (Rows.seasonGamesSpec.fn H ([d0,d1]++[])).results []:=by
  intro b sp hd
  rw [hfn,hrt]
  exact trodAll_cons_mk (shut_bool Tryz.underlying4 _) trodAll_mk0
 have k2:∀sp:Nat→Bool,(∀x∈p0++p1,sp x.block=true)→DataW.TrodAll enc Tryz.prog W' 0 sp true Tryz.f3.params.toList [v0,v1] (Rows.seasonGamesSpec.fn H ([d0,d1]++[])).args (p0++p1):=by
  intro sp hsp
  have hsp0:∀x∈p0,sp x.block=true:=fun x hx=>hsp x (by simp [hx])
  have hsp1:∀x∈p1,sp x.block=true:=fun x hx=>hsp x (by simp [hx])
  rw [hfn,Tryz.params3]
  have q:=(trodAll_cons_mk (Go.WideElems.Trod_stays aqL (by kernel_rfl) (of_decide_eq_true (by kernel_rfl)) h0 (fun x hx=>hg.same (hlt0 x hx)) hsp0) (trodAll_cons_mk (Go.WideElems.Trod_stays aqL (by kernel_rfl) (of_decide_eq_true (by kernel_rfl)) h1 (fun x hx=>hg.same (hlt1 x hx)) hsp1) trodAll_mk0))
  simpa only [List.append_nil,List.nil_append]using q
 have k4:∀(j:Nat) (t:TypeId) (r:Value),Tryz.f3.resultTypes[j]? = some t→((Value.bool true).resultList Tryz.f3.resultTypes.size)[j]? = some r→Value.okWide Tryz.prog W' .any 0 t r:=ok_one (f:=Tryz.f3) hrt rfl (okWide_bool_mk Tryz.underlying4 _)
 exact⟨_,rfl,qM (pa:=p0++p1) (pv:=[]) hW' k1 k2 (fun _ _=>rfl) (List.append_nil _).symm hg k4⟩
def axE:Array Value:=#[.slice none 0 0,.agg #[.string ⟨#[]⟩,.int .i64 0,.int .i64 0,.string ⟨#[]⟩,.string ⟨#[]⟩,.int .i64 0,.int .i64 0,.slice none 0 0]]
theorem laid_met (os:Os):laidMet Tryz.prog Rows.seasonGamesRow.laid ((nO os).forCall (fun _ _=>0) ⟨#[],axE,[]⟩).memory:=
 laidMet_of_run' 8 (by kernel_rfl) (by kernel_rfl)
theorem reads (os:Os) {H:Type}(enc:TypeId×Value→H):∃places,DataW.whole enc Tryz.prog ((nO os).forCall (fun _ _=>0) ⟨#[],axE,[]⟩).memory Tryz.f3.params.toList Rows.seasonGamesSpec.vars false axE.toList 8=some ([.nil,.agg [.lit (.string []),.lit (.int .i64 0),.lit (.int .i64 0),.agg [.lit (.string []),.lit (.string [])],.agg [.lit (.int .i64 0),.lit (.int .i64 0)],.nil]],[],places):=
 ⟨[],by kernel_rfl⟩
set_option maxRecDepth 100000 in
theorem lifted (os:Os) (started:os.Started) (H:Type) (enc:TypeId×Value→H) (F:Stop.Interp) :
  ReturnsInHanded {} Tryz.checked os 3 .any ((OpenSpec.ofChange Rows.seasonGamesSpec).preRow enc Tryz.prog Tryz.f3 Rows.seasonGamesRow.domain false Rows.seasonGamesRow.laid) (((OpenSpec.ofChange Rows.seasonGamesSpec).at F).post enc Tryz.prog Tryz.f3 false true false false):=by
 obtain⟨places,hx⟩:=reads os enc
 refine returnsInHanded_of_row (C:=Tryz.checked) (s:=OpenSpec.ofChange Rows.seasonGamesSpec) own started (by kernel_rfl) Tryz.func3
  (witness_row_at (enc:=enc) (C:=Tryz.checked) false (nO os) axE rfl (by kernel_rfl) (by kernel_rfl) (by kernel_rfl)
   (OpenSpec.preRow_of_cond 8 hx (by kernel_rfl) (fun k hk=>by cases hk) (by kernel_rfl) (laid_met os))) ?_
 intro W base args ds gs before hval hW _ _ _ hL _ _
 exact ajy H enc W base args ds gs before hval hW hL
theorem said:Rows.SeasonGamesSaid:=
 OpenClaim.holds_of_cond 3 Tryz.f3 rfl rfl rfl rfl rfl rfl rfl ⟨rfl,rfl,rfl,rfl,rfl⟩ rfl rfl rfl rfl rfl (by kernel_rfl) Tryz.func3 (by kernel_rfl)
  (of_decide_eq_true (by kernel_rfl)) (by unfold Func.isWrapper;first|(rw [if_pos (by decide +kernel)];kernel_rfl)|(rw [if_neg (by decide +kernel)];exact⟨rfl,rfl⟩))
  (fun os started H enc _ F=>by rw [OpenClaim.pre_eq_preRow];exact lifted os started H enc F)
theorem plain (f:FuncId) (fn:Func) (hf:Tryz.pinned.checked.prog.funcNamed Rows.seasonGamesRow.func=some f) (hfn:Tryz.pinned.checked.prog.funcs[f]? = some fn) :
  false=Tryz.pinned.checked.prog.looks []∧∀(j:Nat) t,fn.params[j]? = some t→Tryz.pinned.checked.prog.wantsStandIn t=false:=by
 obtain rfl:f=3:=Option.some.inj ((show Tryz.prog.funcNamed Rows.seasonGamesRow.func=some 3 by kernel_rfl).symm.trans hf) |>.symm
 obtain rfl:fn=Tryz.f3:=(Option.some.inj (Tryz.func3.symm.trans hfn)).symm
 refine⟨by kernel_rfl,fun j t ht=>?_⟩
 rw [Tryz.params3]at ht
 have hm:t=22∨t=27:=by simpa using Array.mem_of_getElem? ht
 rcases hm with rfl|rfl
 · exact(show Tryz.prog.wantsStandIn 22=false by kernel_rfl)
 · exact(show Tryz.prog.wantsStandIn 27=false by kernel_rfl)
theorem card:Rows.SeasonGamesCardSaid:=
 Claim7.holds_tied_plain_at .later [] _ _ _ _ said (fun _ h=>by cases h) (by kernel_rfl) (fun _ h=>by cases h) seasonGames_row_tie rfl ⟨rfl,rfl⟩ (by kernel_rfl) rfl plain (by kernel_rfl)
end Go.Proofs.YtgnnhpffealmmaaGreatDoor.seasonGamesC
namespace Go.Proofs.YtgnnhpffealmmaaGreatDoor
theorem seasonGames_holds:Rows.SeasonGamesCardSaid:=seasonGamesC.card
end Go.Proofs.YtgnnhpffealmmaaGreatDoor
