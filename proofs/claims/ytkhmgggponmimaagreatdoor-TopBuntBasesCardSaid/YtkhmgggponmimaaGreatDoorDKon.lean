import Derived.Test.YtkhmgggponmimaaGreatDoorDRun
set_option linter.unusedSimpArgs false
set_option linter.unusedVariables false
namespace Go.Ev
open Go.RowKit Go.Proofs
set_option maxRecDepth 100000
set_option maxHeartbeats 4000000
noncomputable section
theorem awt (l:List Nat):((List.range 256).map fun c=>run Tryz.prog gT quiet 2000 (.call 67 [.str l,.int .u8 ((c:Nat):Int)] H.start))=(List.range 256).map fun c=>some [.val (.int .i64 (aU l c 0)) H.start]:=by kernel_rfl
def A230:Row (List Nat×Int×Unit):=Row.cons cS (Row.cons cU8 Row.nil)
def S230 (x:List Nat×Int×Unit):Option Int:=if 0≤x.2.1∧x.2.1<256 then some (aU x.1 x.2.1.toNat 0)else none
theorem fn230:FnT 67 (fOf A230 cI S230):=by
 intro B0 W0 G a u hF vs fro w hvs hfz hb hs
 obtain⟨⟨l,c,_⟩,r,rfl,h1,rfl⟩:=rE hF
 unfold S230 at h1
 split at h1
 rotate_left
 · cases h1
 rename_i hc
 cases h1
 dsimp only at hc hvs ⊢
 obtain⟨k,rfl⟩:∃k:Nat,c=(k:Int):=⟨c.toNat,by omega⟩
 have hk:k<256:=by omega
 have hr:run Tryz.prog gT quiet 2000 (.call 67 [.str l,.int .u8 ((k:Nat):Int)] H.start)=some [.val (.int .i64 (aU l k 0)) H.start]:=by
  have:=congrArg (fun q=>q[k]?) (awt l)
  simpa [hk]using this
 have e:V.cs (A230.v (l,((k:Nat):Int),()))=[.str l,.int .u8 ((k:Nat):Int)]:=by
  show V.cs [V.str l,V.int .u8 _]=_
  simp only [V.cs,V.c]
 rw [e]at hvs
 have G1:GRel w.heap.size w gT:=G.grow hb hs
 refine(qH mixed noNG hfz G1 (xO (W0:=⟨w,fro⟩) mixed noNG G1 100 avO) hr hvs).mono ?_
 rintro e w' ⟨v,h',u,ρ,hm,rfl,hv,hR⟩
 simp only [List.mem_singleton,Out.val.injEq]at hm
 obtain⟨rfl,rfl⟩:=hm
 have e2:(cI.v (aU l k 0)).c=.int .i64 (aU l k 0):=by simp only [azO,V.c]
 cases hv
 refine⟨_,ρ.fro,rfl,?_,hR.below,?_⟩
 · rw [show(((k:Nat):Int)).toNat=k from Int.toNat_natCast k,e2];exact .int _ _
 · have hfro:(fun b=>if b<w.heap.size then fro b else ρ.fro b)=ρ.fro:=by
    funext b
    split
    · rename_i hb;exact(hR.fz0 b hb).symm
    · rfl
   rw [hfro];exact hR.fz
def K230:Con Tryz.prog gT:=Con.of 67 A230 cI S230 fn230
def CL:List (List Nat):=[[107,102,103,112,116],[97],[98,116,111,102,99,103],[110],[121],[],[99,107,110,121],[73,78],[88,89],[75],[89],[87,72,73],[75,87],[88,75],[72,73,78],[99,107],[99],[107]]
def OL:List Nat:=[75,87,72,73,88,78,89,98,97,115,112,107,116,111,102,103,99,100,110,121]
def EL:List Nat:=[75,87,72,73,88,78,89]
theorem con_ev:((List.range 256).all fun r=>aqp (hasC EL r) (run Tryz.prog gT quiet 2000 (.call 86 [.str EL,.str [r]] H.start)))=true:=by kernel_rfl
theorem ayW:(CL.all fun c=>OL.all fun r=>aqp (hasC c r) (run Tryz.prog gT quiet 2000 (.call 86 [.str c,.str [r]] H.start)))=true:=by kernel_rfl
def F181:List EVal→Option EVal
 | [.str c,.str [r]]=>if(c∈CL∧r∈OL)∨(c=EL∧r<256)then some (.bool (hasC c r))else none
 | _=>none
theorem fn181:FnT 86 F181:=by
 refine awe (n:=2000) fun a u h=>?_
 unfold F181 at h
 split at h
 rotate_left
 · cases h
 rename_i c r
 split at h
 rotate_left
 · cases h
 rename_i hx
 cases h
 rcases hx with hx|⟨rfl,hx⟩
 · exact⟨_,rfl,List.all_eq_true.1 (List.all_eq_true.1 ayW c hx.1) r hx.2⟩
 · exact⟨_,rfl,List.all_eq_true.1 con_ev r (List.mem_range.2 hx)⟩
def axT:Row (List Nat×List Nat×Unit):=Row.cons cS (Row.cons cS Row.nil)
def wT (x:List Nat×List Nat×Unit):Option Bool:=match x.2.1 with
 | [r]=>if(x.1∈CL∧r∈OL)∨(x.1=EL∧r<256)then some (hasC x.1 r)else none
 | _=>none
def K181:Con Tryz.prog gT:=Con.of 86 axT cB wT (Fn.weak fn181 fun a v h=>by
 obtain⟨⟨c,t,_⟩,r,rfl,hs,rfl⟩:=rE h
 have e:V.cs (axT.v (c,t,()))=[.str c,.str t]:=by
  show V.cs [V.str c,V.str t]=_
  simp only [V.cs,V.c]
 rw [e]
 unfold wT at hs
 split at hs
 · rename_i r' ht
   dsimp only at ht hs
   subst ht
   split at hs
   · rename_i hx
     cases hs
     simp only [F181,if_pos hx,cB,V.c]
   · cases hs
 · cases hs)
end
end Go.Ev
