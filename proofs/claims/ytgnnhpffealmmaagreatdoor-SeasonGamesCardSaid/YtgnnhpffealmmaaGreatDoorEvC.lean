import Derived.Test.YtgnnhpffealmmaaGreatDoorEvB
import Derived.OpenShut
import Derived.ChangeArms
import Derived.LaidLaws
set_option linter.unusedSimpArgs false
set_option linter.unusedVariables false
namespace Go.Ev
open Go.RowKit
structure HGrow (h hh:H):Prop where
 m:hh.m=h.m
 obj:∀id e,h.get id=some e→hh.get id=some e
theorem HGrow.refl (h:H):HGrow h h:=⟨rfl,fun _ _ x=>x⟩
theorem HGrow.trans {a b c:H}(h1:HGrow a b) (h2:HGrow b c):HGrow a c:=⟨h2.m.trans h1.m,fun id e x=>h2.obj id e (h1.obj id e x)⟩
theorem HGrow.new {h:H}{o:bR}(hn:h.get h.n=none):HGrow h (h.new o):=⟨rfl,fun id e x=>by
 have hne:h.n≠id:=fun e2=>by rw [←e2,hn]at x;cases x
 show(h.t.set h.n (some o)).get id=some e
 rw [T.get_set_ne _ _ _ _ (Ne.symm hne)];exact x⟩
section
variable {P:Program}{g:G}{K:aH}{h hh:H}
theorem row_ext (hg:HGrow h hh) {x:EVal}{r:List EVal×Nat}(he:row? g h x=some r):row? g hh x=some r:=by
 unfold row? at he ⊢
 split at he
 · exact he
 · split at he
   · rename_i hget
     rw [hg.obj _ _ hget];exact he
   · cases he
 · exact he
 · cases he
theorem aja (hg:HGrow h hh) {t:TypeId}{x v:EVal}(he:eLoad P g h t x=some v):eLoad P g hh t x=some v:=by
 unfold eLoad at he ⊢
 split at he
 · rename_i hr
   rw [row_ext hg hr];exact he
 · cases he
theorem yA (hg:HGrow h hh) {t:TypeId}{x i v:EVal}{ok:Bool}(he:eU P h t x i ok=some v):eU P hh t x i ok=some v:=by
 unfold eU at he ⊢
 split at he
 · split at he
   · rename_i hk
     simp only [hk,if_true]
     split at he
     · exact he
     · split at he
       · rename_i hget
         rw [hg.obj _ _ hget];exact he
       · cases he
     · cases he
   · cases he
 · cases he
theorem vJ (hg:HGrow h hh) {s d:TypeId}{x v:EVal}(he:eConvert P h s d x=some v):eConvert P hh s d x=some v:=by
 unfold eConvert at he ⊢
 split at he
 · exact he
 · exact he
 · exact he
 · split at he
   · rename_i hget
     rw [hg.obj _ _ hget];exact he
   · cases he
 · split at he
   · rename_i hget
     rw [hg.obj _ _ hget];exact he
   · cases he
 · cases he
theorem len_ext (hg:HGrow h hh) {t:TypeId}{x v:EVal}(he:eLen P h t x=some v):eLen P hh t x=some v:=by
 unfold eLen at he ⊢
 split at he
 · exact he
 · exact he
 · exact he
 · exact he
 · split at he
   · exact he
   · unfold eLenM at he ⊢
     split at he
     · rename_i hget
       rw [hg.obj _ _ hget];exact he
     · cases he
   · cases he
 · cases he
theorem axF (hg:HGrow h hh) {x v:EVal}(he:argB P h x=some v):argB P hh x=some v:=by
 unfold argB at he ⊢
 split at he
 · split at he
   · rename_i hget
     rw [hg.obj _ _ hget];exact he
   · cases he
 · exact he
theorem tU (hg:HGrow h hh):∀ {l l':List EVal},argsB P h l=some l'→argsB P hh l=some l'
 | [],_,he=>he
 | x :: l,l',he=>by
   unfold argsB at he ⊢
   split at he
   · rename_i a b ha hb
     rw [axF hg ha,tU hg hb];exact he
   · cases he
theorem aqP (hg:HGrow h hh) {f:FuncId}{args:List EVal}{v:EVal}(he:kcall P K h f args=some v):kcall P K hh f args=some v:=by
 unfold kcall at he ⊢
 split at he
 · rename_i ts ha
   rw [tU hg ha];exact he
 · cases he
theorem aqH {x:Option EVal}{v:EVal}{h1:H}(he:Go.Ev.mk x h=some (.val v h1)):x=some v:=by
 cases x with
 | none=>cases he
 | some u=>cases he;rfl
theorem sO (hg:HGrow h hh) {t:T EVal}{o:Oper}{v:EVal}{h1:H}(hq:isQuiet o=true) (he:eOp P g h t o=some (.val v h1)):∃h2,eOp P g hh t o=some (.val v h2):=by
 unfold isQuiet at hq
 unfold eOp at he ⊢
 split at hq
 · rename_i ty a heq
   rw [heq]at he ⊢
   simp only [eLoadOp]at he ⊢
   split at he
   · rename_i x hx
     have:=aqH he
     rw [aja hg this];exact⟨_,rfl⟩
   · cases he
 · rename_i heq
   rw [heq]at he ⊢
   simp only [fG]at he ⊢
   split at he
   · have:=aqH he
     rw [yA hg this];exact⟨_,rfl⟩
   · cases he
 · rename_i heq
   rw [heq]at he ⊢
   simp only [eConvOp]at he ⊢
   split at he
   · have:=aqH he
     rw [vJ hg this];exact⟨_,rfl⟩
   · cases he
 · rename_i heq
   rw [heq]at he ⊢
   simp only [bW]at he ⊢
   split at he
   · split at he
     · cases he;rename_i hs;simp only [hs,if_true];exact⟨_,rfl⟩
     · rename_i hs
       simp only [if_neg hs]
       split at he
       · cases he;exact⟨_,rfl⟩
       · cases he
   · cases he
 · rename_i c heq
   rw [heq]at he ⊢
   simp only [eCall]at he ⊢
   split at he
   · cases he
   · split at hq
     · rename_i hc
       rw [hc]at he ⊢
       simp only [eCallB,eBuiltin]at he ⊢
       split at he
       · rename_i u h2 hb
         split at hb
         · simp only [Option.map_eq_some_iff]at hb
           obtain⟨w,hl,e⟩:=hb
           cases e
           cases he
           rw [len_ext hg hl];exact⟨_,rfl⟩
         · cases hb
       · cases he
     · rename_i hc
       rw [hc]at he ⊢
       simp only [eCallB,eBuiltin]at he ⊢
       split at he
       · rename_i u h2 hb
         split at hb
         · simp only [Option.map_eq_some_iff]at hb
           obtain⟨w,hl,e⟩:=hb
           cases e
           cases he
           rw [hl];exact⟨_,rfl⟩
         · cases hb
       · cases he
     · rename_i hc
       rw [hc]at he ⊢
       simp only [eCallB,eBuiltin]at he ⊢
       split at he
       · rename_i u h2 hb
         split at hb
         · cases hb;cases he;exact⟨_,rfl⟩
         · split at hb
           · cases hb
           · rename_i hcond
             cases hb
             cases he
             simp only [hcond,if_false]
             exact⟨_,rfl⟩
         · cases hb
       · cases he
     · cases hq
 · cases hq
theorem src_ext (hg:HGrow h hh) {sz:Nat}{x:EVal}{r:List EVal×Nat}(he:srcCells h sz x=some r):srcCells hh sz x=some r:=by
 unfold srcCells at he ⊢
 split at he
 · exact he
 · exact he
 · split at he
   · rename_i hget
     rw [hg.obj _ _ hget];exact he
   · cases he
 · exact he
 · exact he
 · exact he
 · cases he
theorem axd (hg:HGrow h hh):hh.fz=h.fz:=by unfold H.fz;rw [hg.m]
theorem oN (hg:HGrow h hh) {t:TypeId}{s x:EVal}{l:List (List EVal)}{h1:H}(he:eAppend P h t s x=some (.lsl l,h1)):eAppend P hh t s x=some (.lsl l,hh):=by
 obtain⟨rfl,hf,_,e,i,new,n,new',hu,hi,hs,hk,hc,rfl⟩:=lD he
 unfold eAppend
 simp only [hu,hi,src_ext hg hs,eN]
 rw [axd hg,hf]
 simp only [hk,if_pos hc]
theorem y3 (hg:HGrow h hh) {ts:List TypeId}{args:List EVal}{v:EVal}{h1:H}(hv:v.kept=true) (he:eBuiltin P h .append ts args=some (v,h1)):eBuiltin P hh .append ts args=some (v,hh):=by
 obtain⟨l,rfl⟩:=EVal.kept_lsl hv
 unfold eBuiltin at he ⊢
 simp only at he ⊢
 split at he
 · split at he
   · exact oN hg he
   · exact oN hg he
   · exact absurd he oM
   · cases he
 · cases he
theorem zI (hg : HGrow h hh) {t:T EVal}{o:Oper}{v:EVal}{h1:H}(hq:isStill o h1 v=true) (he:eOp P g h t o=some (.val v h1)):∃h2,eOp P g hh t o=some (.val v h2)∧isStill o h2 v=true:=by
 have hsame:=jJ hq he
 subst hsame
 have hq0:=hq
 unfold isStill at hq
 split at hq
 · rename_i ty len parts hop
   have hm:h1.fz=true:=hq
   have hm2:hh.fz=true:=by rw [axd hg];exact hm
   have key : eOp P g hh t o=some (.val v hh):=by
    unfold eOp at he ⊢
    rw [hop]at he ⊢
    simp only at he ⊢
    unfold eBuildSlice at he ⊢
    split at he
    · split at he
      · unfold eBuildSlice' at he ⊢
        split at he
        · rename_i hc
          rw [if_pos hc]
          split at he
          · rw [hm] at he
            rw [hm2]
            simp only at he ⊢
            split at he
            · rename_i h0
              simp only [Oi,EOut.val.injEq]at he
              rw [if_pos h0,←he.1,show hh.z0=h1.z0 by unfold H.z0;rw [hg.m]]
            · rename_i h0
              rw [if_neg h0]
              split at he
              · split at he
                · rename_i hl
                  rw [if_pos hl]
                  simp only [Oi,EOut.val.injEq]at he ⊢
                  exact⟨he.1,trivial⟩
                · cases he
              · cases he
          · cases he
        · cases he
      · cases he
    · cases he
   exact⟨hh,key,by unfold isStill;rw [hop];exact hm2⟩
 · rename_i c hop
   split at hq
   · rename_i hc
     refine⟨hh,?_,by unfold isStill;rw [hop];simp only [hc];exact hq⟩
     unfold eOp at he ⊢
     rw [hop]at he ⊢
     simp only [eCall]at he ⊢
     split at he
     · cases he
     · rw [hc]at he ⊢
       simp only [eCallB]at he ⊢
       split at he
       · rename_i v1 h2 hb
         simp only [Oi,EOut.val.injEq]at he
         obtain⟨rfl,rfl⟩:=he
         rw [y3 hg hq hb]
       · cases he
   · rename_i hn
     obtain⟨h2,e⟩:=sO hg hq he
     refine⟨h2,e,?_⟩
     unfold isStill at hq0 ⊢
     rw [hop]at hq0 ⊢
     exact hq0
 · rename_i hb hc
   obtain⟨h2,e⟩:=sO hg hq he
   refine⟨h2,e,?_⟩
   unfold isStill
   split
   · rename_i hop;exact absurd hop (hb _ _ _)
   · rename_i hop;exact absurd hop (hc _)
   · exact hq
theorem aq7 {t : T EVal} {o:Oper}{f:FuncId}{args:List EVal}{h1:H}(he:eOp P g h t o=some (.enter f args h1)):h1=h∧eOp P g hh t o=some (.enter f args hh):=by
 have nomk:∀x:Option EVal,Go.Ev.mk x h≠some (.enter f args h1):=fun x e=>by cases x<;>cases e
 unfold eOp at he ⊢
 split at he
 all_goals try (exfalso;exact nomk _ he)
 all_goals try (exfalso;simp only [ePick,eAlloc,eBox,eBuild,eBuildS,eBuildA,eBuildSlice,eBuildSlice',eLoadOp,eStoreOp,eNil,eBinOp,eUnOp,eConvOp,bW,eMakeSlice,eMakeSlice',eSliceOp,eFieldAddrOp,eFieldOp,eIndexAddrOp,eIndexOp,fG,cM,eRange,l7,kU,eNextS,eNextS',eExtract]at he;repeat' (split at he)
                all_goals first|(cases he;done)|exact nomk _ he)
 · cases he
 · exfalso
   unfold eRange at he
   repeat' (split at he)
   all_goals first|(cases he;done)|exact nomk _ he|(unfold eRangeMap at he;split at he<;>cases he)
 · rename_i c heq
   unfold eCall at he ⊢
   split at he
   · cases he
   · rename_i args' ha
     split at he
     · simp only [eCallB]at he
       split at he<;>cases he
     · simp only [eCallV]at he ⊢
       split at he
       · rename_i f' cs hv
         unfold iS at he ⊢
         split at he
         · rename_i fn hfn
           split at he
           · exfalso
             simp only [i4,dV,kV,fF,kT]at he
             repeat' (split at he)
             all_goals first|(cases he;done)|exact nomk _ he
           · rename_i hb
             cases he
             simp only [hb]
             exact⟨trivial,by simp⟩
         · cases he
       · rename_i f' fs' hv
         unfold iS at he ⊢
         split at he
         · rename_i fn hfn
           split at he
           · exfalso
             simp only [i4,dV,kV,fF,kT]at he
             repeat' (split at he)
             all_goals first|(cases he;done)|exact nomk _ he
           · rename_i hb
             cases he
             simp only [hb]
             exact⟨trivial,by simp⟩
         · cases he
       · cases he
       · cases he
     · cases he
 · cases he
end
def isNew (o:Oper):Bool:=
 match o.op with
 | .alloc _=>true
 | .box _ _=>true
 | .call c=>match c.callee with
   | .value _=>true
   | _=>false
 | _=>false
noncomputable def ajh (o:Oper) (h:H):Bool:=isNew o&&(h.get h.n).isNone
theorem extB_q {o:Oper}{h:H}:ajh o h=(isNew o&&(h.get h.n).isNone):=(rfl)
theorem aj8 {P : Program} {g:G}{h h1:H}{t:T EVal}{o:Oper}{v:EVal}(hb:ajh o h=true) (he:eOp P g h t o=some (.val v h1)):HGrow h h1:=by
 unfold ajh isNew at hb
 simp only [Bool.and_eq_true,Option.isNone_iff_eq_none]at hb
 obtain⟨h2,h3⟩:=hb
 unfold eOp at he
 split at h2
 · rename_i heq
   rw [heq]at he
   simp only [eAlloc]at he
   split at he
   · cases he;exact .new h3
   · cases he
 · rename_i heq
   rw [heq]at he
   simp only [eBox]at he
   split at he
   · cases he;exact .new h3
   · cases he
 · rename_i c heq
   rw [heq]at he
   split at h2
   · rename_i x hx
     simp only [eCall,hx]at he
     repeat' (split at he)
     all_goals first
      | (cases he;done)
      | (simp only [eCallV]at he
         repeat' (split at he)
         all_goals first
          | (cases he;done)
          | (unfold iS at he
             repeat' (split at he)
             all_goals first
              | (cases he;done)
              | (simp only [i4,dV,kV,fF,kT]at he
                 repeat' (split at he)
                 all_goals first
                  | (cases he;done)
                  | (cases he;exact .refl _)
                  | (cases he;exact .new h3))))
   · cases h2
 · cases h2
mutual
theorem EVal.beq_refl:∀a:EVal,EVal.beq a a=true
 | .unk=>rfl
 | .bool a=>by simp [EVal.beq]
 | .int k a=>by simp [EVal.beq]
 | .str a=>by simp [EVal.beq]
 | .nilp=>rfl
 | .gptr a b=>by simp [EVal.beq]
 | .ptr a b=>by simp [EVal.beq]
 | .nilslice=>rfl
 | .slice a b c x=>by simp [EVal.beq]
 | .nilmap=>rfl
 | .map a=>by simp [EVal.beq]
 | .nilfunc=>rfl
 | .nilif=>rfl
 | .zsl=>rfl
 | .zslt a=>by simp [EVal.beq]
 | .func f a=>by simp [EVal.beq,eE a]
 | .bound f a=>by simp [EVal.beq,eE a]
 | .yieldf a=>by simp [EVal.beq]
 | .iface t a=>by simp [EVal.beq,EVal.beq_refl a]
 | .agg a=>by simp only [EVal.beq];exact eE a
 | .tup a=>by simp only [EVal.beq];exact eE a
 | .lsl a=>by simp only [EVal.beq];exact lB a
 | .lptr a i=>by simp [EVal.beq,eE a]
 | .gsl i a=>by simp [EVal.beq,lB a]
theorem eE:∀l:List EVal,zE l l=true
 | []=>rfl
 | a::l=>by simp [zE,EVal.beq_refl a,eE l]
theorem lB:∀l:List (List EVal),vQ l l=true
 | []=>rfl
 | a::l=>by simp [vQ,eE a,lB l]
end
end Go.Ev
namespace Go.Ev
open Go.RowKit
section
variable {P:Program}{g:G}
theorem cN {h h':H}{id o:Nat}{vs:List EVal}(he:eStoreCells h id o vs=some h'):h'.m=h.m:=by
 unfold eStoreCells at he
 split at he
 · split at he
   · simp only [Oi]at he;subst he;rfl
   · cases he
 · cases he
theorem q8 {h h':H}{e sz bytes old new need v} (he:eGrow P h e sz bytes old new need=some (v,h')):h'.m=h.m:=by
 unfold eGrow at he
 split at he
 · simp only [Oi,Prod.mk.injEq]at he;obtain⟨_,rfl⟩:=he;rfl
 · cases he
theorem tF {h h':H} {t:TypeId}{s x v:EVal}(he:eAppend P h t s x=some (v,h')):h'.m=h.m:=by
 unfold eAppend at he
 repeat' (split at he)
 all_goals first
  | (cases he;done)
  | (simp only [Oi,Prod.mk.injEq]at he;obtain⟨_,rfl⟩:=he;rfl)
  | exact q8 he
  | skip
 · unfold eN at he
   repeat' (split at he)
   all_goals first
    | (cases he;done)
    | (simp only [Oi,Prod.mk.injEq]at he;obtain⟨_,rfl⟩:=he;rfl)
    | exact q8 he
 · unfold f6 at he
   repeat' (split at he)
   all_goals first
    | (cases he;done)
    | (simp only [Oi,Prod.mk.injEq]at he;obtain⟨_,rfl⟩:=he;rfl)
 · unfold eAppendX at he
   split at he
   · split at he
     · rename_i hs
       simp only [Oi,Prod.mk.injEq]at he;obtain⟨_,rfl⟩:=he;exact cN hs
     · cases he
   · split at he
     · exact q8 he
     · cases he
 · unfold eAppendS at he
   split at he
   · unfold eAppendS' at he
     split at he
     · simp only [Oi,Prod.mk.injEq]at he;obtain⟨_,rfl⟩:=he;rfl
     · split at he
       · split at he
         · split at he
           · rename_i hs
             simp only [Oi,Prod.mk.injEq]at he;obtain⟨_,rfl⟩:=he;exact cN hs
           · cases he
         · split at he
           · simp only [Oi,Prod.mk.injEq]at he;obtain⟨_,rfl⟩:=he;rfl
           · cases he
       · cases he
   · cases he
 · unfold eAppendG at he
   repeat' (split at he)
   all_goals first
    | (cases he;done)
    | (simp only [Oi,Prod.mk.injEq]at he;obtain⟨_,rfl⟩:=he;rfl)
theorem yK {h h':H}{b:Builtin}{ts:List TypeId}{args:List EVal}{v:EVal}(he:eBuiltin P h b ts args=some (v,h')):h'.m=h.m:=by
 unfold eBuiltin at he
 split at he
 · split at he
   · split at he
     · exact tF he
     · exact tF he
     · unfold iJ at he
       repeat' (split at he)
       all_goals first
        | (cases he;done)
        | exact q8 he
     · cases he
   · cases he
 · split at he
   · simp only [Option.map_eq_some_iff,Prod.mk.injEq]at he;obtain⟨_,_,_,rfl⟩:=he;rfl
   · cases he
 · split at he
   · simp only [Option.map_eq_some_iff,Prod.mk.injEq]at he;obtain⟨_,_,_,rfl⟩:=he;rfl
   · cases he
 · split at he
   · unfold yJ at he
     repeat' (split at he)
     all_goals first
      | (cases he;done)
      | (simp only [Oi,Prod.mk.injEq]at he;obtain⟨_,rfl⟩:=he;first|rfl|(exact cN (by assumption)))
   · cases he
 · repeat' (split at he)
   all_goals first
    | (cases he;done)
    | (simp only [Oi,Prod.mk.injEq]at he;obtain⟨_,rfl⟩:=he;rfl)
 · repeat' (split at he)
   all_goals first
    | (cases he;done)
    | (simp only [Oi,Prod.mk.injEq]at he;obtain⟨_,rfl⟩:=he;rfl)
 · repeat' (split at he)
   all_goals first
    | (cases he;done)
    | (simp only [Oi,Prod.mk.injEq]at he;obtain⟨_,rfl⟩:=he;rfl)
 · split at he
   · split at he
     · unfold dO eT at he
       repeat' (split at he)
       all_goals first
        | (cases he;done)
        | (simp only [Oi,Prod.mk.injEq]at he;obtain⟨_,rfl⟩:=he;rfl)
     · cases he
   · cases he
 · repeat' (split at he)
   all_goals first
    | (cases he;done)
    | (unfold wX at he
       repeat' (split at he)
       all_goals first
        | (cases he;done)
        | (simp only [Oi,Prod.mk.injEq]at he;obtain⟨_,rfl⟩:=he;first|rfl|(exact cN (by assumption))))
 · cases he
theorem eOp_m {h h':H}{t:T EVal}{o:Oper}{v:EVal}(he:eOp P g h t o=some (.val v h')):h'.m=h.m:=by
 cases hp:isPure o with
 | true=>
   obtain⟨v0,e0,_⟩:=nF hp _ _ he
   simp only [EOut.val.injEq]at e0;rw [e0.2]
 | false=>
 cases hq:isQuiet o with
 | true=>rw [qL hq he]
 | false=>
 obtain⟨dst,op,ty,pos,after,guard⟩:=o
 cases op<;>first|(cases hp;done)|(cases hq;done)|(cases he;done)|skip
 case alloc e=>
  have he:eAlloc P h e=some (.val v h'):=he
  unfold eAlloc at he
  split at he
  · (simp only [Oi,EOut.val.injEq]at he;obtain⟨_,rfl⟩:=he;rfl)
  · cases he
 case box e x=>
  have he:eBox h e (ev t x)=some (.val v h'):=he
  unfold eBox at he
  split at he
  · (simp only [Oi,EOut.val.injEq]at he;obtain⟨_,rfl⟩:=he;rfl)
  · cases he
 case buildSlice ty len parts=>
  have he:eBuildSlice P h ty len (evParts t parts.toList)=some (.val v h'):=he
  unfold eBuildSlice eBuildSlice' at he
  repeat' (split at he)
  all_goals first
   | (cases he;done)
   | (simp only [Oi,EOut.val.injEq]at he;obtain⟨_,rfl⟩:=he;rfl)
 case store ty a x=>
  have he:eStoreOp P h ty (ev t a) (ev t x)=some (.val v h'):=he
  unfold eStoreOp at he
  split at he
  · split at he
    · rename_i hs
      unfold eStore at hs
      repeat' (split at hs)
      all_goals first
       | (cases hs;done)
       | (simp only [Oi,EOut.val.injEq]at he;obtain⟨_,rfl⟩:=he;exact cN hs)
    · cases he
  · cases he
 case makeFunc f first cs=>
  cases f with
  | func f=>
    have he:bW h f first (evs t first.toList) (evs t cs.toList)=some (.val v h'):=he
    unfold bW at he
    repeat' (split at he)
    all_goals first
     | (cases he;done)
     | (simp only [Oi,EOut.val.injEq]at he;obtain⟨_,rfl⟩:=he;rfl)
  | _=>cases he
 case makeMap mt r=>
  cases r with
  | none=>
    have he:some (EOut.val (.map h.n) (h.new (.map [] 0)))=some (.val v h'):=he
    (simp only [Oi,EOut.val.injEq]at he;obtain⟨_,rfl⟩:=he;rfl)
  | some _=>cases he
 case makeSlice ty l c=>
  have he:eMakeSlice P h ty (ev t l) (ev t c)=some (.val v h'):=he
  unfold eMakeSlice eMakeSlice' at he
  repeat' (split at he)
  all_goals first
   | (cases he;done)
   | (simp only [Oi,EOut.val.injEq]at he;obtain⟨_,rfl⟩:=he;rfl)
 case slice ty x lo hi mx=>
  cases mx with
  | none=>cases hp
  | some _=>cases he
 case range ty x=>
  have he:eRange P h ty (ev t x)=some (.val v h'):=he
  unfold eRange eRangeMap at he
  repeat' (split at he)
  all_goals first
   | (cases he;done)
   | (simp only [Oi,EOut.val.injEq]at he;obtain⟨_,rfl⟩:=he;rfl)
 case next it b=>
  cases b with
  | true=>
    have he:eNextS h (ev t it)=some (.val v h'):=he
    unfold eNextS eNextS' at he
    repeat' (split at he)
    all_goals first
     | (cases he;done)
     | (simp only [Oi,EOut.val.injEq]at he;obtain⟨_,rfl⟩:=he;rfl)
  | false=>cases he
 case entry x=>
  have he:l7 h (ev t x)=some (.val v h'):=he
  unfold l7 kU at he
  repeat' (split at he)
  all_goals first
   | (cases he;done)
   | (simp only [Oi,EOut.val.injEq]at he;obtain⟨_,rfl⟩:=he;rfl)
 case call c=>
  have he:eCall P h t c.callee c.argTypes (evs t c.args.toList)=some (.val v h'):=he
  unfold eCall at he
  split at he
  · cases he
  · split at he
    · unfold eCallB at he
      split at he
      · rename_i hb
        simp only [Oi,EOut.val.injEq]at he;obtain⟨_,rfl⟩:=he
        exact yK hb
      · cases he
    · unfold eCallV iS i4 at he
      repeat' (split at he)
      all_goals first
       | (cases he;done)
       | (simp at he;done)
       | (unfold dV at he;split at he<;>first|(cases he;done)|(split at he<;>first|(cases he;done)|(simp only [Oi,EOut.val.injEq]at he;obtain⟨_,rfl⟩:=he;rfl)))
       | (unfold kV at he;split at he<;>first|(cases he;done)|(split at he<;>first|(cases he;done)|(simp only [Oi,EOut.val.injEq]at he;obtain⟨_,rfl⟩:=he;rfl)))
       | (unfold fF at he;split at he<;>first|(cases he;done)|(simp only [Oi,EOut.val.injEq]at he;obtain⟨_,rfl⟩:=he;rfl))
       | (unfold kT at he
          repeat' (split at he)
          all_goals first
           | (cases he;done)
           | (simp only [Oi,EOut.val.injEq]at he;obtain⟨_,rfl⟩:=he;rfl))
    · cases he
 all_goals
  have he:cM P h _ (ev t _) (ev t _) (ev t _)=some (.val v h'):=he
  unfold cM at he
  split at he
  · split at he
    · rename_i hs
      simp only [Oi,EOut.val.injEq]at he;obtain⟨_,rfl⟩:=he
      unfold i3 at hs
      repeat' (split at hs)
      all_goals first
       | (cases hs;done)
       | (unfold bY at hs
          repeat' (split at hs)
          all_goals first
           | (cases hs;done)
           | (simp only [Oi]at hs;subst hs;rfl))
    · cases he
  · cases he
theorem pW {h h1 hh:H} {t:T EVal}{o:Oper}{v:EVal}{ty:TypeId}{len:Nat}{parts:Array (Nat×Operand)}(hop:o.op=.buildSlice ty len parts) (hm:h.fz=true) (he:eOp P g h t o=some (.val v h1)) (hg:hh.m=h.m):h1=h∧eOp P g hh t o=some (.val v hh):=by
 have hm2:hh.fz=true:=by rw [←hm];unfold H.fz;rw [hg]
 unfold eOp at he ⊢
 rw [hop]at he ⊢
 simp only at he ⊢
 unfold eBuildSlice at he ⊢
 split at he
 · split at he
   · unfold eBuildSlice' at he ⊢
     split at he
     · rename_i hc
       rw [if_pos hc]
       split at he
       · rw [hm] at he
         rw [hm2]
         simp only at he ⊢
         split at he
         · rename_i h0
           simp only [Oi,EOut.val.injEq]at he
           rw [if_pos h0,←he.1,show hh.z0=h.z0 by unfold H.z0;rw [hg]]
           exact⟨he.2.symm,rfl⟩
         · rename_i h0
           rw [if_neg h0]
           split at he
           · split at he
             · rename_i hl
               rw [if_pos hl]
               simp only [Oi,EOut.val.injEq]at he ⊢
               exact⟨he.2.symm,he.1,trivial⟩
             · cases he
           · cases he
       · cases he
     · cases he
   · cases he
 · cases he
end
end Go.Ev
namespace Go.Ev
open Go.RowKit
theorem evs_congr {t u:T EVal}:∀ {l:List Operand},(∀x∈l,ev t x=ev u x)→evs t l=evs u l
 | [],_=>rfl
 | x::l,h=>by simp only [evs];rw [h x (by simp),evs_congr (fun y hy=>h y (by simp [hy]))]
theorem evParts_congr {t u:T EVal}:∀ {l:List (Nat×Operand)},(∀x∈l.map (·.2),ev t x=ev u x)→evParts t l=evParts u l
 | [],_=>rfl
 | (i,x)::l,h=>by simp only [evParts];rw [h x (by simp),evParts_congr (fun y hy=>h y (by simp at hy ⊢;exact .inr hy))]
theorem evOpt_congr {t u:T EVal}{x:Option Operand}(h:∀y,x=some y→ev t y=ev u y):evOpt t x=evOpt u x:=by
 cases x with
 | none=>rfl
 | some y=>simp only [evOpt];rw [h y rfl]
theorem aq8 {P:Program}{g:G}{h:H}{t u:T EVal}{o:Oper}(hx:∀x∈o.op.operands.toList,ev t x=ev u x):eOp P g h t o=eOp P g h u o:=by
 unfold eOp
 split
 all_goals first|(rfl;done)|skip
 all_goals first
  | (rename_i hop;rw [hop]at hx;refine congrArg _ (evParts_congr (fun x h=>hx x ?_));simpa [Op.operands]using h)
  | (rename_i hop;rw [hop]at hx;refine congrArg _ (evs_congr (fun x h=>hx x ?_));simp only [Op.operands,Array.toList_append,List.mem_append];exact .inr h)
  | (rename_i fs cs hop;rw [hop]at hx;rw [show evs t fs.toList=evs u fs.toList from evs_congr (fun x h=>hx x (by simp only [Op.operands,Array.toList_append,List.mem_append];exact .inl h)),show evs t cs.toList=evs u cs.toList from evs_congr (fun x h=>hx x (by simp only [Op.operands,Array.toList_append,List.mem_append];exact .inr h))])
  | (rename_i x lo hi hop;rw [hop]at hx;rw [hx x (by simp [Op.operands]),evOpt_congr (x:=lo) (fun y hy=>hx y (by subst hy;simp [Op.operands])),evOpt_congr (x:=hi) (fun y hy=>hx y (by subst hy;simp [Op.operands]))])
  | (rename_i hop;rw [hop]at hx;simp only [Op.operands,List.mem_cons,List.not_mem_nil,or_false,forall_eq,forall_eq_or_imp]at hx;first|rw [hx]|rw [hx.1,hx.2]|rw [hx.1,hx.2.1,hx.2.2])
  | skip
 rename_i c hop
 rw [hop]at hx
 have hc:∀x∈c.operands.toList,ev t x=ev u x:=hx
 unfold Call.operands at hc
 have h1:evs t c.args.toList=evs u c.args.toList:=evs_congr (fun x h=>hc x (by rw [Array.toList_append,List.mem_append];exact .inr h))
 rw [h1]
 unfold eCall
 cases hcal:c.callee with
 | value f=>
   have h2:ev t f=ev u f:=hc f (by rw [hcal];simp)
   simp only [h2]
 | _=>rfl
theorem pE (t:T EVal) (s:Nat) (l:List Nat):uJ t (s::l)=(uJ t l).set s (t.get s):=(rfl)
theorem z3 (t:T EVal) (l:List Nat) (i:Nat) (h:i<1000):(uJ t l).has i:=by
 induction l with
 | nil=>exact T.has_full _ _ _ (by omega)
 | cons s l ih=>rw [pE];exact(T.has_set _ _ _ _).2 ih
theorem kL (t:T EVal) {l:List Nat}{i:Nat}(h:i<1000) (hm:i∈l):(uJ t l).get i=t.get i:=by
 induction l with
 | nil=>cases hm
 | cons s l ih=>
   rw [pE]
   by_cases e:i=s
   · subst e;exact T.get_set_same _ _ _ (z3 _ _ _ h)
   · rw [T.get_set_ne _ _ _ _ e]
     exact ih ((List.mem_cons.1 hm).resolve_left e)
theorem dT {i:Nat}:∀ {l:List Operand},.tmp i∈l→i∈lT l
 | .tmp j::l,h=>by
   simp only [lT,List.mem_cons]
   rcases List.mem_cons.1 h with h|h
   · cases h;exact .inl rfl
   · exact .inr (dT h)
 | .const _::l,h=>by simp only [lT];exact dT ((List.mem_cons.1 h).resolve_left (by simp))
 | .global _::l,h=>by simp only [lT];exact dT ((List.mem_cons.1 h).resolve_left (by simp))
 | .func _::l,h=>by simp only [lT];exact dT ((List.mem_cons.1 h).resolve_left (by simp))
section
variable {P:Program}{g:G}{K:aH}
theorem jR {ops:Array Oper}{o:Oper}{f:EFr}{h:H}(hs:∀s∈aX ops o,s<1000):eOp P g h (aB ops o f) o=eOp P g h f.tmps o:=by
 refine aq8 fun x hx=>?_
 cases x with
 | tmp i=>
   have:i∈aX ops o:=List.mem_append_left _ (dT hx)
   exact kL _ (hs i this) this
 | _=>rfl
theorem lP {ops:Array Oper}{o:Oper}{f:EFr}(hs:∀s∈aX ops o,s<1000):wantedE ops (aB ops o f) o=wantedE ops f.tmps o:=by
 unfold wantedE
 split
 · rfl
 · rename_i j want hg
   have : yieldedE ops (aB ops o f) j=yieldedE ops f.tmps j:=by
    unfold yieldedE
    split
    · rename_i q hq
      split
      · rename_i d hd
        have hm:d∈aX ops o:=List.mem_append_right _ (by unfold s4;rw [hg];simp [hq,hd])
        have:(aB ops o f).get d=f.tmps.get d:=kL _ (hs d hm) hm
        rw [this]
      · rfl
    · rfl
   rw [this]
def actIdx:List (Bool×Bool)→Nat→List Nat
 | [],_=>[]
 | (a,_)::l,i=>if a then i::actIdx l (i+1)else actIdx l (i+1)
noncomputable def b9:List (Bool×Bool)→Nat→List (Nat×Bool)
 | [],_=>[]
 | (a,e)::l,i=>bif a then(i,e)::b9 l (i+1)else b9 l (i+1)
noncomputable def fB (A:List Nat) (i:Nat):List (Nat×Bool)→Bool
 | []=>true
 | (a,e)::l=>bif Nat.blt a i then(bif hasB (nthM A i) a then fB A i l else false)else
   (bif hasB (nthM A i) a then false else bif hasB (nthM A a) i then true else bif e then fB A i l else false)
noncomputable def hX (A:List Nat) (acts:List (Nat×Bool)):List (Bool×Bool)→Nat→Bool
 | [],_=>true
 | (a,nd)::l,i=>bif(bif nd then(bif a then true else fB A i acts)else true)then hX A acts l (i+1)else false
noncomputable def mP (A:List Nat) (fl:List (Bool×Bool)):Bool:=
 match actIdx fl 0 with
 | []=>true
 | acts=>bif gA A acts acts then hX A (b9 fl 0) fl 0 else false
def gI (P:Program) (K:aH) (k:EVal→H→Bool×Bool→Prop) (o:Oper) (h:H):Option EOut→Prop
 | some (.val v h')=>if isPure o=true then k v h (false,false)else if isStill o h' v=true then k v h (false,true)else k v h' (true,ajh o h)
 | some (.enter fn args h')=>match kcall P K h' fn args with
   | some v=>k v h (false,true)
   | none=>False
 | _=>False
def jE (P:Program) (g:G) (K:aH) (all:Array Oper) (Q:List (Bool×Bool)→EFr→H→Prop):List Oper→List (Bool×Bool)→EFr→H→Prop
 | [],fl,f,h=>Q fl f h
 | o::rest,fl,f,h=>match wantedE all f.tmps o with
   | some true=>gI P K (fun v h' b=>jE P g K all Q rest (b::fl) (f.putd o.dst v) h') o h (eOp P g h f.tmps o)
   | some false=>jE P g K all Q rest ((false,false)::fl) (f.putd o.dst undefE) h
   | none=>False
def uB (P:Program) (g:G) (K:aH) (all:Array Oper) (Q:List (Bool×Bool)→EFr→H→Prop) (d:Option Tmp) (rest:List Oper) (fl:List (Bool×Bool)) (f:EFr) (v:EVal) (h:H) (b:Bool×Bool):Prop:=jE P g K all Q rest (b::fl) (f.putd d v) h
def eP (P:Program) (g:G) (K:aH) (all:Array Oper) (Q:List (Bool×Bool)→EFr→H→Prop) (o:Oper) (rest:List Oper) (fl:List (Bool×Bool)) (f:EFr) (h:H):Option Bool→Prop
 | some true=>gI P K (uB P g K all Q o.dst rest fl f) o h (eOp P g h f.tmps o)
 | some false=>jE P g K all Q rest ((false,false)::fl) (f.putd o.dst undefE) h
 | none=>False
theorem wpDraw_nil {all:Array Oper}{Q:List (Bool×Bool)→EFr→H→Prop}{fl:List (Bool×Bool)}{f:EFr}{h:H}:jE P g K all Q [] fl f h=Q fl f h:=(rfl)
theorem wpDraw_cons {all:Array Oper}{Q:List (Bool×Bool)→EFr→H→Prop}{o:Oper}{rest:List Oper}{fl:List (Bool×Bool)}{f:EFr}{h:H}:jE P g K all Q (o::rest) fl f h=eP P g K all Q o rest fl f h (wantedE all f.tmps o):=by
 simp only [jE]
 unfold eP
 split<;>rfl
theorem wpDStep_true {all:Array Oper}{Q:List (Bool×Bool)→EFr→H→Prop}{o:Oper}{rest:List Oper}{fl:List (Bool×Bool)}{f:EFr}{h:H}:eP P g K all Q o rest fl f h (some true)=gI P K (uB P g K all Q o.dst rest fl f) o h (eOp P g h f.tmps o):=(rfl)
theorem wpDStep_false {all:Array Oper}{Q:List (Bool×Bool)→EFr→H→Prop}{o:Oper}{rest:List Oper}{fl:List (Bool×Bool)}{f:EFr}{h:H}:eP P g K all Q o rest fl f h (some false)=jE P g K all Q rest ((false,false)::fl) (f.putd o.dst undefE) h:=(rfl)
theorem dW {all:Array Oper}{Q:List (Bool×Bool)→EFr→H→Prop}{o:Oper}{rest:List Oper}{fl:List (Bool×Bool)}{f:EFr}{h:H}{q:Bool}(h1:q=true→eP P g K all Q o rest fl f h (some true)) (h2:q=false→eP P g K all Q o rest fl f h (some false)):eP P g K all Q o rest fl f h (some q):=by
 cases q with
 | true=>exact h1 rfl
 | false=>exact h2 rfl
theorem dX {all:Array Oper}{Q:List (Bool×Bool)→EFr→H→Prop}{o:Oper}{rest:List Oper}{fl:List (Bool×Bool)}{f:EFr}{h:H}{q:Bool}(h1:q=false→eP P g K all Q o rest fl f h (some true)) (h2:q=true→eP P g K all Q o rest fl f h (some false)):eP P g K all Q o rest fl f h (some !q):=by
 cases q with
 | true=>exact h2 rfl
 | false=>exact h1 rfl
def rY (k:EVal→H→Bool×Bool→Prop) (v:EVal) (h h':H) (e:Bool):Bool→Bool→Prop
 | true,_=>k v h (false,false)
 | false,true=>k v h (false,true)
 | false,false=>k v h' (true,e)
theorem wpDSel_pure {k:EVal→H→Bool×Bool→Prop}{v:EVal}{h h':H}{e q:Bool}:rY k v h h' e true q=k v h (false,false):=by cases q<;>rfl
theorem wpDSel_quiet {k:EVal→H→Bool×Bool→Prop}{v:EVal}{h h':H}{e:Bool}:rY k v h h' e false true=k v h (false,true):=(rfl)
theorem wpDSel_act {k:EVal→H→Bool×Bool→Prop}{v:EVal}{h h':H}{e:Bool}:rY k v h h' e false false=k v h' (true,e):=(rfl)
def wpDKc (k:EVal→H→Bool×Bool→Prop) (h:H):Option EVal→Prop
 | some v=>k v h (false,true)
 | none=>False
theorem wpDKc_some {k:EVal→H→Bool×Bool→Prop}{h:H}{v:EVal}:wpDKc k h (some v)=k v h (false,true):=(rfl)
theorem wpDOut_val {k:EVal→H→Bool×Bool→Prop}{o:Oper}{h h':H}{v:EVal}:gI P K k o h (some (.val v h'))=rY k v h h' (ajh o h) (isPure o) (isStill o h' v):=by
 show(if isPure o=true then k v h (false,false)else if isStill o h' v=true then k v h (false,true)else k v h' (true,ajh o h))=_
 unfold rY
 cases isPure o<;>cases isStill o h' v<;>rfl
theorem wpDOut_enter {k:EVal→H→Bool×Bool→Prop}{o:Oper}{h h':H}{fn:FuncId}{args:List EVal}:gI P K k o h (some (.enter fn args h'))=wpDKc k h (kcall P K h' fn args):=by
 show(match kcall P K h' fn args with|some v=>k v h (false,true)|none=>False)=_
 cases kcall P K h' fn args<;>rfl
noncomputable def kW (ops:Array Oper) (n:Nat):Bool:=
 bN ops (dQ ops.toList [])&&ops.toList.all fun o=>mG o n&&(aX ops o).all fun s=>Nat.blt s 1000
inductive Flags (P:Program) (g:G) (K:aH) (all:Array Oper):List aC→List (Bool×Bool)→H→Prop
 | nil (h:H):Flags P g K all [] [] h
 | cons (x:aC) (b:Bool×Bool) (st:List aC) (fl:List (Bool×Bool)) (h:H) (hh:x.h=h) (ha:x.act.isSome=b.1)
   (hn:fC all x=true→(b.2=true∧b.1=false∧∀h2,HGrow x.h h2→aY P g K all x h2=true)∨∀h2,h2.m=x.h.m→aY P g K all x h2=true)
   (he:∀h',x.act=some h'→h'.m=x.h.m∧(b.2=true→HGrow x.h h')) (rest:Flags P g K all st fl (x.act.getD h)):Flags P g K all (x::st) (b::fl) h
theorem sM {ops:Array Oper}{o:Oper}{f:EFr}(hs:∀s∈aX ops o,s<1000):isKept (aB ops o f) o=isKept f.tmps o:=by
 unfold isKept
 split
 · rename_i ty x hop
   have:ev (aB ops o f) x=ev f.tmps x:=by
    cases x with
    | tmp i=>
      have:i∈aX ops o:=List.mem_append_left _ (dT (by rw [hop];simp [Op.operands]))
      exact kL _ (hs i this) this
    | _=>rfl
   rw [this]
 · rfl
def kQ (h:H) (o:Oper):Bool:=match o.op with
 | .buildSlice _ _ _=>h.fz
 | _=>false
def bQ (P:Program) (g:G) (K:aH) (all:Array Oper) (Q:List (Bool×Bool)→EFr→H→Prop):List Oper→List (Bool×Bool)→EFr→H→Prop
 | [],fl,f,h=>Q fl f h
 | o :: rest,fl,f,h=>match wantedE all f.tmps o with
   | some true=>((isKept f.tmps o=true∨kQ h o=true)∧∃v,eOp P g h f.tmps o=some (.val v h)∧bQ P g K all Q rest ((false,false)::fl) (f.putd o.dst v) h) ∨
     gI P K (fun v h' b=>bQ P g K all Q rest (b::fl) (f.putd o.dst v) h') o h (eOp P g h f.tmps o)
   | some false=>bQ P g K all Q rest ((false,false)::fl) (f.putd o.dst undefE) h
   | none=>False
def t9 (P:Program) (g:G) (K:aH) (all:Array Oper) (Q:List (Bool×Bool)→EFr→H→Prop) (o:Oper) (rest:List Oper) (fl:List (Bool×Bool)) (f:EFr) (h:H):Option Bool→Prop
 | some true=>((isKept f.tmps o=true∨kQ h o=true)∧∃v,eOp P g h f.tmps o=some (.val v h)∧bQ P g K all Q rest ((false,false)::fl) (f.putd o.dst v) h) ∨
   gI P K (fun v h' b=>bQ P g K all Q rest (b::fl) (f.putd o.dst v) h') o h (eOp P g h f.tmps o)
 | some false=>bQ P g K all Q rest ((false,false)::fl) (f.putd o.dst undefE) h
 | none=>False
theorem uA {k k':EVal→H→Bool×Bool→Prop}(hk:∀v h b,k v h b→k' v h b) {o:Oper}{h:H}{x:Option EOut}(hw:gI P K k o h x):gI P K k' o h x:=by
 unfold gI at hw ⊢
 split at hw
 · split at hw
   · rename_i h1;rw [if_pos h1];exact hk _ _ _ hw
   · rename_i h1
     rw [if_neg h1]
     split at hw
     · rename_i h2;rw [if_pos h2];exact hk _ _ _ hw
     · rename_i h2;rw [if_neg h2];exact hk _ _ _ hw
 · split at hw
   · exact hk _ _ _ hw
   · exact hw
 · exact hw
theorem eH {all:Array Oper}{Q Q':List (Bool×Bool)→EFr→H→Prop}(hq:∀fl f h,Q fl f h→Q' fl f h):∀ {l:List Oper}{fl:List (Bool×Bool)}{f:EFr}{h:H},bQ P g K all Q l fl f h→bQ P g K all Q' l fl f h
 | [],_,_,_,hw=>hq _ _ _ hw
 | o :: rest,fl,f,h,hw=>by
   simp only [bQ]at hw ⊢
   split at hw
   · rcases hw with⟨h1,v,h2,hw⟩ | hw
     · exact .inl ⟨h1,v,h2,eH hq hw⟩
     · exact .inr (uA (fun v h b hq'=>eH hq hq') hw)
   · exact eH hq hw
   · exact hw
theorem o5 {all:Array Oper} {Q:List (Bool×Bool)→EFr→H→Prop}{r:Rec}:∀(l:List Oper) (fl:List (Bool×Bool)) (f:EFr) (h:H),(∀o∈l,mG o f.sz=true∧∀s∈aX all o,s<1000)→bQ P g K all Q l fl f h →
  ∃st f' h' fl',eO P g K r all l f h=some (st,f',h')∧Flags P g K all st fl' h∧Q (fl'.reverse++fl) f' h'
 | [],fl,f,h,_,hw=>⟨[],f,h,[],rfl,.nil _,hw⟩
 | o :: l, fl,f,h,hs,hw=>by
   obtain⟨hd,hr⟩:=hs o (by simp)
   have hgo:eO P g K r all (o::l) f h=(match mG o f.sz with
    | false=>none
    | true=>match cX P g K r o (aB all o f) h (wantedE all (aB all o f) o)with
      | some (v,none)=>rK ⟨o,f,v,h,none⟩ (eO P g K r all l (f.putd o.dst v) h)
      | some (v,some h')=>rK ⟨o,f,v,h,some h'⟩ (eO P g K r all l (f.putd o.dst v) h')
      | none=>none):=rfl
   rw [hgo,hd]
   simp only
   have hsz:∀v,(f.putd o.dst v).sz=f.sz:=fun v=>by
    unfold EFr.putd
    split
    · simp only [Bool.cond_eq_ite];split<;>rfl
    · rfl
   have hs':∀v,∀o'∈l,mG o' (f.putd o.dst v).sz=true∧∀s∈aX all o',s<1000:=fun v o' ho'=>by rw [hsz];exact hs o' (by simp [ho'])
   have next:∀(v:EVal) (h':H) (act:Option H) (b:Bool×Bool),act.isSome=b.1→act.getD h=h'→(fC all ⟨o,f,v,h,act⟩=true→(b.2=true∧b.1=false∧∀h2,HGrow h h2→aY P g K all ⟨o,f,v,h,act⟩ h2=true)∨∀h2,h2.m=h.m→aY P g K all ⟨o,f,v,h,act⟩ h2=true) →
     (∀h2,act=some h2→h2.m=h.m∧(b.2=true→HGrow h h2))→bQ P g K all Q l (b::fl) (f.putd o.dst v) h' →
     ∃st f' h2 fl',rK ⟨o,f,v,h,act⟩ (eO P g K r all l (f.putd o.dst v) h')=some (st,f',h2)∧Flags P g K all st fl' h∧Q (fl'.reverse++fl) f' h2:=by
    intro v h' act b hb1 hb3 hb2 hb4 hq
    obtain⟨st,f',h2,fl',e1,e2,e3⟩:=o5 (r:=r) l (b::fl) _ h' (hs' v) hq
    subst hb3
    refine⟨_,f',h2,b::fl',by rw [e1];rfl,.cons ⟨o,f,v,h,act⟩ _ _ _ _ rfl hb1 hb2 hb4 e2,?_⟩
    rw [List.reverse_cons,List.append_assoc];exact e3
   unfold bQ at hw
   rw [lP hr]
   split at hw
   · rename_i hwant
     rw [hwant]
     simp only [cX]
     rw [jR hr]
     rcases hw with⟨hk,v,heq,hw⟩ | hw
     · rw [heq]
       rcases hk with hk|hk
       · simp only [gG,Bool.cond_eq_ite,yC hk,Bool.or_true,if_true]
         exact next v h none (false,false) rfl rfl (by simp [fC,sM hr,hk]) (fun _ e=>by cases e) hw
       · have hst:isStill o h v=true:=by
          unfold kQ at hk
          unfold isStill
          split at hk
          · rename_i hop;rw [hop];exact hk
          · cases hk
         simp only [gG,Bool.cond_eq_ite,hst,Bool.or_true,if_true]
         refine next v h none (false,false) rfl rfl (fun _=>.inr fun h2 hm=>?_) (fun _ e=>by cases e) hw
         unfold kQ at hk
         split at hk
         · rename_i hop
           obtain⟨_,e3⟩:=pW hop hk heq hm
           show jT P K _ (eOp P g h2 (aB all o f) o)=true
           rw [jR hr,e3]
           have hst2:isStill o h2 v=true:=by
            unfold isStill;rw [hop]
            show h2.fz=true
            rw [←hk];unfold H.fz;rw [hm]
           simp only [jT,hst2,EVal.beq_refl,Bool.and_self]
         · cases hk
     unfold gI at hw
     split at hw
     · rename_i v h' heq
       rw [heq]
       simp only [gG,Bool.cond_eq_ite]
       split at hw
       · rename_i hp
         simp only [hp,Bool.true_or,if_true]
         exact next v h none (false,false) rfl rfl (by simp [fC,hp]) (fun _ e=>by cases e) hw
       · rename_i hp
         have hp':isPure o=false:=by simpa using hp
         split at hw
         · rename_i hqt
           simp only [hp',hqt,Bool.or_true,if_true]
           refine next v h none (false,true) rfl rfl (fun _=>.inl ⟨rfl,rfl,fun h2 hg=>?_⟩) (fun _ e=>by cases e) hw
           obtain⟨h3,e3,e4⟩:=zI hg hqt heq
           show jT P K _ (eOp P g h2 (aB all o f) o)=true
           rw [jR hr,e3]
           simp only [jT,e4,EVal.beq_refl,Bool.and_self]
         · rename_i hqt
           have hqt':isStill o h' v=false:=by simpa using hqt
           simp only [hp',hqt',Bool.or_false,Bool.false_eq_true,if_false]
           exact next v h' (some h') (true,ajh o h) rfl rfl (by simp [fC]) (fun h2 e=>by cases e;exact⟨eOp_m heq,fun hb=>aj8 hb heq⟩) hw
     · rename_i fn args h' heq
       rw [heq]
       simp only [gG]
       split at hw
       · rename_i v hk
         rw [hk]
         refine next v h none (false,true) rfl rfl (fun _=>.inl ⟨rfl,rfl,fun h2 hg=>?_⟩) (fun _ e=>by cases e) hw
         obtain⟨rfl,e3⟩:=aq7 (hh:=h2) heq
         show jT P K _ (eOp P g h2 (aB all o f) o)=true
         rw [jR hr,e3]
         simp only [jT,aqP hg hk,EVal.beq_refl]
       · exact hw.elim
     · exact hw.elim
   · rename_i hwant
     rw [hwant]
     simp only [cX]
     refine next undefE h none (false,false) rfl rfl (fun hn=>?_) (fun _ e=>by cases e) hw
     unfold fC at hn
     simp only [lP hr,hwant]at hn
     generalize (isPure o||isKept _ o)=q at hn
     cases q<;>cases hn
   · exact hw.elim
theorem tZ {all:Array Oper}{st:List aC}{fl:List (Bool×Bool)}{h:H}(H1:Flags P g K all st fl h):∀i,actsOf st i=actIdx fl i:=by
 induction H1 with
 | nil=>intro i;rfl
 | cons x b st fl h hh ha hn he rest ih=>
   intro i
   obtain⟨a,nd⟩:=b
   have e:actsOf (x::st) i=Option.rec (motive:=fun _=>List Nat) (actsOf st (Nat.succ i)) (fun _=>i::actsOf st (Nat.succ i)) x.act:=rfl
   rw [e]
   simp only [actIdx]
   cases hx:x.act with
   | none=>rw [hx]at ha;simp at ha;subst ha;simpa using ih (i+1)
   | some h'=>rw [hx]at ha;simp at ha;subst ha;simpa using ih (i+1)
theorem g9 {all:Array Oper}{A:List Nat}{i a:Nat}{x y:aC}{h:H}{l:List aC}:e8 P g K all A i x a h (y::l)=(match y.act with
  | none=>e8 P g K all A i x (a+1) h l
  | some h'=>bif hasB (nthM A i) a then e8 P g K all A i x (a+1) h' l
    else bif hasB (nthM A a) i then aY P g K all x h
    else aY P g K all x h&&e8 P g K all A i x (a+1) h' l):=rfl
theorem gJ {all:Array Oper} {A:List Nat}{i:Nat}{x:aC}(hx:∀h2,HGrow x.h h2→aY P g K all x h2=true):∀ {st:List aC}{fl:List (Bool×Bool)}{h:H},Flags P g K all st fl h→∀a,i<a→HGrow x.h h→fB A i (b9 fl a)=true→e8 P g K all A i x a h st=true
 | _,_,h,.nil _,a,_,hg,_=>hx h hg
 | _, _, h, .cons y b st fl _ hh ha hn he rest,a,hi,hg,hq=>by
   obtain⟨b1,b2⟩:=b
   rw [g9]
   cases hy:y.act with
   | none=>
     rw [hy]at ha rest
     simp at ha
     subst ha
     exact gJ hx rest (a+1) (by omega) hg hq
   | some h'=>
     rw [hy]at ha rest
     change Flags P g K all st fl h' at rest
     simp at ha
     subst ha
     simp only
     have e:fB A i ((a,b2)::b9 fl (a+1))=true:=hq
     have hlt:Nat.blt a i=false:=by rw [Bool.eq_false_iff];intro e;rw [Nat.blt_eq]at e;omega
     simp only [fB,hlt,cond_false]at e
     cases h1:hasB (nthM A i) a with
     | true=>rw [h1]at e;cases e
     | false=>
       rw [h1]at e
       simp only [cond_false]at e ⊢
       cases h2:hasB (nthM A a) i with
       | true=>simp only [cond_true];exact hx h hg
       | false=>
         rw [h2]at e
         simp only [cond_false]at e ⊢
         cases h3:b2 with
         | false=>rw [h3]at e;cases e
         | true=>
           rw [h3]at e
           simp only [cond_true]at e
           subst hh
           rw [hx _ hg,gJ hx rest (a+1) (by omega) (hg.trans ((he h' hy).2 h3)) e];rfl
theorem kH {all:Array Oper}{A:List Nat}{i:Nat}{x:aC}{m:Nat}(hx:∀h2,h2.m=m→aY P g K all x h2=true):∀ {st:List aC}{fl:List (Bool×Bool)}{h:H},Flags P g K all st fl h→∀a,h.m=m→e8 P g K all A i x a h st=true
 | _,_,h,.nil _,a,hg=>hx h hg
 | _, _,h,.cons y b st fl _ hh ha hn he rest,a,hg=>by
   rw [g9]
   cases hy:y.act with
   | none=>
     rw [hy]at rest
     exact kH hx rest (a+1) hg
   | some h'=>
     rw [hy]at rest
     change Flags P g K all st fl h' at rest
     have hm:h'.m=m:=by rw [(he h' hy).1,hh];exact hg
     simp only
     rw [hx h hg,kH hx rest (a+1) hm]
     cases hasB (nthM A i) a<;>cases hasB (nthM A a) i<;>rfl
theorem aqZ {all:Array Oper}{x:aC}{l2:List aC}:∀(l1:List aC) {fl:List (Bool×Bool)}{h:H},Flags P g K all (l1++x::l2) fl h→h.m=x.h.m
 | [],_,h,HF=>by
   rw [List.nil_append]at HF
   cases HF with
   | cons _ b st fl _ hh ha hn he rest=>rw [hh]
 | y :: l1,_,h,HF=>by
   rw [List.cons_append]at HF
   cases HF with
   | cons _ b st fl _ hh ha hn he rest=>
     rw [←aqZ l1 rest]
     cases hy:y.act with
     | none=>rfl
     | some h'=>rw [←hh];exact((he h' hy).1).symm
theorem iT {all:Array Oper}{A:List Nat}{i:Nat}{x:aC}{l2:List aC}(h3:∀h2,HGrow x.h h2→aY P g K all x h2=true) (hact:x.act=none):∀(l1:List aC) {fl:List (Bool×Bool)}{h:H},Flags P g K all (l1++x::l2) fl h→∀a,a+l1.length=i→fB A i (b9 fl a)=true→e8 P g K all A i x a h (l1++x::l2)=true
 | [],_,h,HF,a,hi,hq=>by
   rw [List.nil_append]at HF
   cases HF with
   | cons _ b st fl _ hh ha hn he rest=>
   obtain⟨b1,b2⟩:=b
   simp only [List.length_nil,Nat.add_zero]at hi
   subst hi
   show e8 P g K all A a x a h (x::l2)=true
   rw [g9]
   have hb1:b1=false:=by rw [hact]at ha;simpa using ha.symm
   subst hb1
   rw [hact]at rest
   rw [hact]
   exact gJ h3 rest (a+1) (by omega) (by subst hh;exact HGrow.refl _) hq
 | y :: l1,_,h,HF,a,hi,hq=>by
   rw [List.cons_append]at HF
   cases HF with
   | cons _ b st fl _ hh ha hn he rest=>
   obtain⟨b1,b2⟩:=b
   simp only [List.length_cons]at hi
   show e8 P g K all A i x a h (y::(l1++x::l2))=true
   rw [g9]
   cases hy:y.act with
   | none=>
     rw [hy]at ha rest
     simp at ha
     subst ha
     exact iT h3 hact l1 rest (a+1) (by omega) hq
   | some h'=>
     rw [hy]at ha rest
     simp at ha
     subst ha
     simp only
     have e:fB A i ((a,b2)::b9 fl (a+1))=true:=hq
     have hlt:Nat.blt a i=true:=by rw [Nat.blt_eq];omega
     simp only [fB,hlt,cond_true]at e
     cases h1:hasB (nthM A i) a with
     | false=>rw [h1]at e;cases e
     | true=>
       rw [h1]at e
       simp only [cond_true]at e ⊢
       exact iT h3 hact l1 rest (a+1) (by omega) e
theorem iQ {all:Array Oper}{A acts:List Nat}{h0:H}{fl0:List (Bool×Bool)}:∀(st l1:List aC) (fl:List (Bool×Bool)) (h:H),Flags P g K all (l1++st) fl0 h0→Flags P g K all st fl h→hX A (b9 fl0 0) fl l1.length=true→dA P g K all A (l1++st) h0 acts st l1.length=true
 | [],_,_,_,_,_,_=>rfl
 | x :: st,l1,_,_,H0,.cons _ b _ fl h hh ha hn he rest,hq=>by
   obtain⟨a,nd⟩:=b
   have e:dA P g K all A (l1++x::st) h0 acts (x::st) l1.length=(bif(bif quick A l1.length acts then true else bif fC all x then e8 P g K all A l1.length x 0 h0 (l1++x::st)else true)then dA P g K all A (l1++x::st) h0 acts st (Nat.succ l1.length)else false):=rfl
   have hq2:(bif(bif nd then(bif a then true else fB A l1.length (b9 fl0 0))else true)then hX A (b9 fl0 0) fl (l1.length+1)else false)=true:=hq
   have hrest:hX A (b9 fl0 0) fl (l1.length+1)=true:=by
    cases hc:(bif nd then(bif a then true else fB A l1.length (b9 fl0 0))else true)with
    | true=>rw [hc]at hq2;exact hq2
    | false=>rw [hc]at hq2;cases hq2
   have h1:(bif fC all x then e8 P g K all A l1.length x 0 h0 (l1++x::st)else true)=true:=by
    cases hnx:fC all x with
    | false=>rfl
    | true=>
      have hact:x.act=none:=by
       cases hx:x.act with
       | none=>rfl
       | some _=>unfold fC at hnx;rw [hx]at hnx;cases hnx
      rcases hn hnx with⟨e1,e2,h3⟩ | hall
      rotate_left
      · exact kH hall H0 0 (aqZ l1 H0)
      simp only at e1 e2
      subst e1 e2
      have h2:fB A l1.length (b9 fl0 0)=true:=by
       cases hc:fB A l1.length (b9 fl0 0)with
       | true=>rfl
       | false=>simp only [cond_true,cond_false,hc]at hq2;cases hq2
      exact iT h3 hact l1 H0 0 (by omega) h2
   have ih:=iQ (acts:=acts) st (l1++[x]) fl _ (by rw [List.append_assoc];exact H0) rest (by rw [List.length_append];exact hrest)
   rw [List.append_assoc]at ih
   have ih2:dA P g K all A (l1++x::st) h0 acts st (l1.length+1)=true:=by
    have:=ih
    rw [List.length_append]at this
    exact this
   rw [e,h1]
   cases quick A l1.length acts<;>exact ih2
end
theorem wpDNext_q {P:Program}{g:G}{K:aH}{all:Array Oper}{Q:List (Bool×Bool)→EFr→H→Prop}{d:Option Tmp}{rest:List Oper}{fl:List (Bool×Bool)}{f:EFr}{v:EVal}{h:H}{b:Bool×Bool}:uB P g K all Q d rest fl f v h b=jE P g K all Q rest (b::fl) (f.putd d v) h:=(rfl)
end Go.Ev
namespace Go.Ev
open Go.RowKit
def d8 (P:Program) (f:TypeId→DataW Unit→Option (List EVal)):List Field→List (DataW Unit)→Nat→Option (List EVal)
 | [],[],_=>some []
 | x::fs,d::ds,o=>match f x.type d,d8 P f fs ds (o+P.cellsOf x.type)with
   | some a,some b=>if x.offset=o∧a.length=P.cellsOf x.type then some (a++b)else none
   | _,_=>none
 | _,_,_=>none
def sW (f:DataW Unit→Option (List EVal)) (c:Nat):List (DataW Unit)→Option (List EVal)
 | []=>some []
 | d::ds=>match f d,sW f c ds with
   | some a,some b=>if a.length=c then some (a++b)else none
   | _,_=>none
def layE (P:Program):Nat→TypeId→DataW Unit→Option (List EVal)
 | 0,_,_=>none
 | n + 1,t,d=>match P.underlying t,d with
   | some .bool,.lit (.bool b)=>some [.bool b]
   | some (.int _),.lit (.int k' m)=>some [.int k' m]
   | some .string,.lit (.string l)=>some [.str (l.map UInt8.toNat)]
   | some (.struct fs),.agg ds=>match d8 P (layE P n) fs.toList ds 0 with
     | some es=>if es.length=P.cellsOf t then some es else none
     | none=>none
   | some (.array m e),.agg ds=>match sW (layE P n e) (P.cellsOf e) ds with
     | some es=>if es.length=P.cellsOf t∧ds.length=m then some es else none
     | none=>none
   | _,_=>none
section
variable {P:Program}{w:World}{enc:TypeId×Value→Unit}{base:Nat}{sp:Nat→Bool}{held:Bool}
theorem gP {f:TypeId→DataW Unit→Option (List EVal)}{tr:TypeId→List Value→Option (DataW Unit×List MemPlace)}{cs:List Value}
  (hf:∀t d es c p,f t d=some es→tr t c=some (d,p)→VsRel Loc.nil es c):∀ {fs:List Field} {xs:List (DataW Unit×List MemPlace)} {o:Nat} {es:List EVal},
  d8 P f fs (xs.map (·.1)) o=some es→(∀(i:Nat) (x:Field),fs[i]? = some x→tr x.type ((cs.drop x.offset).take (P.cellsOf x.type))=xs[i]?)→VsRel Loc.nil es ((cs.drop o).take es.length)
 | [],[],o,es,h,_=>by
   simp only [List.map_nil,d8,Oi]at h;subst h
   simpa using VsRel.nil
 | [],y::ys,o,es,h,_=>by simp [d8]at h
 | x::fs,[],o,es,h,_=>by simp [d8]at h
 | x :: fs,y::ys,o,es,h,ht=>by
   simp only [List.map_cons,d8]at h
   split at h
   · rename_i a b ha hb
     split at h
     · rename_i hx
       simp only [Oi]at h;subst h
       obtain⟨hxo,hal⟩:=hx
       have h0:=ht 0 x rfl
       rw [hxo]at h0
       have h1:=hf _ _ _ _ y.2 ha (by rw [h0];rfl)
       have h2:=gP hf hb (fun i z hz=>ht (i+1) z (by simpa using hz))
       rw [List.length_append,List.take_add,List.drop_drop,hal]
       exact h1.append h2
     · cases h
   · cases h
theorem lW {f:DataW Unit→Option (List EVal)}{tr:List Value→Option (DataW Unit×List MemPlace)}{c:Nat}{cs:List Value}
  (hf:∀d es u p,f d=some es→tr u=some (d,p)→VsRel Loc.nil es u):∀ {xs:List (DataW Unit×List MemPlace)} {k:Nat} {es:List EVal},
  sW f c (xs.map (·.1))=some es→(∀(i:Nat),i<xs.length→tr ((cs.drop ((k+i)*c)).take c)=xs[i]?)→VsRel Loc.nil es ((cs.drop (k*c)).take es.length)
 | [],k,es,h,_=>by
   simp only [List.map_nil,sW,Oi]at h;subst h
   simpa using VsRel.nil
 | y :: ys,k,es,h,ht=>by
   simp only [List.map_cons,sW]at h
   split at h
   · rename_i a b ha hb
     split at h
     · rename_i hal
       simp only [Oi]at h;subst h
       have h0:=ht 0 (by simp)
       rw [Nat.add_zero]at h0
       have h1:=hf _ _ _ y.2 ha (by rw [h0];rfl)
       have h2:=lW hf (k:=k+1) hb (fun i hi=>by
        have:=ht (i+1) (by simpa using hi)
        rw [show k+(i+1)=k+1+i from by omega]at this
        simpa using this)
       rw [List.length_append,List.take_add,List.drop_drop,hal]
       have e:k*c+c=(k+1)*c:=by rw [Nat.succ_mul]
       rw [e]
       exact h1.append h2
     · cases h
   · cases h
theorem kP:∀(n:Nat) {m:Nat}{t:TypeId}{d:DataW Unit}{es:List EVal}{cs:List Value}{p:List MemPlace},layE P n t d=some es→DataW.trod enc P w base sp held m t cs=some (d,p)→VsRel Loc.nil es cs
 | 0,_,_,_,_,_,_,h,_=>by cases h
 | n + 1, m,t,d,es,cs,p,h,ht=>by
   simp only [layE]at h
   split at h
   · rename_i b hu
     simp only [Oi]at h;subst h
     obtain⟨b',rfl,hx⟩:=DataW.trod_bool hu ht
     cases hx
     exact .cons _ _ _ _ (.bool _) .nil
   · rename_i k k' z hu
     simp only [Oi]at h;subst h
     obtain⟨z',rfl,hx,_⟩:=DataW.trod_int hu ht
     cases hx
     exact .cons _ _ _ _ (.int _ _) .nil
   · rename_i l hu
     simp only [Oi]at h;subst h
     obtain⟨s,rfl,hx,_⟩:=DataW.trod_string hu ht
     cases hx
     exact .cons _ _ _ _ (.str _ _ rfl) .nil
   · rename_i fs ds hu
     obtain⟨xs,m',rfl,hx,hl,hxl,hxs⟩:=DataW.trod_struct hu ht
     simp only [Prod.mk.injEq,DataW.agg.injEq]at hx
     obtain⟨rfl,_⟩:=hx
     split at h
     · rename_i es' hes
       split at h
       · rename_i hlen
         simp only [Oi]at h;subst h
         have:=gP (tr:=fun t c=>DataW.trod enc P w base sp held m' t c) (cs:=cs) (fun t d es c p h1 h2=>kP n h1 h2) hes (fun i x hx=>hxs i x (by rw [←Array.getElem?_toList];exact hx))
         rwa [List.drop_zero,hlen,←hl,List.take_length]at this
       · cases h
     · cases h
   · rename_i k e ds hu
     obtain⟨xs,m',rfl,hx,hl,hxl,hxs⟩:=DataW.trod_array hu ht
     simp only [Prod.mk.injEq,DataW.agg.injEq]at hx
     obtain⟨rfl,_⟩:=hx
     split at h
     · rename_i es' hes
       split at h
       · rename_i hlen
         simp only [Oi]at h;subst h
         have:=lW (tr:=fun c=>DataW.trod enc P w base sp held m' e c) (cs:=cs) (k:=0) (fun d es c p h1 h2=>kP n h1 h2) hes (fun i hi=>by rw [Nat.zero_add];exact hxs i (by omega))
         rwa [Nat.zero_mul,List.drop_zero,hlen.1,←hl,List.take_length]at this
       · cases h
     · cases h
   · cases h
end
def oneG (i:Nat) (cells:List EVal):G:=fun j=>if j=i then some cells else none
theorem GRel.of_laid {P:Program}{W:World}{name:String}{d:DataW Unit}{rest:List (String×DataW Unit)}{i t n:Nat}{cells:List EVal}(hg:P.globalNamed name=some i) (ht:(P.globals[i]?).map (·.type)=some t)
  (hlay:layE P n t d=some cells) (h:laidMet P ((name,d)::rest) W):GRel W.heap.size W (oneG i cells):=by
 obtain⟨ps,⟨g,t',cs,fuel,p,q,hg',ht',hv,htr,_,hps⟩,_,hb⟩:=h
 rw [hg]at hg';cases hg'
 rw [ht]at ht';cases ht'
 intro j cells' hj
 unfold oneG at hj
 split at hj
 · rename_i hji
   subst hji
   cases hj
   unfold World.var? at hv
   rw [hg]at hv
   simp only [Option.bind_some]at hv
   split at hv
   · rename_i cs' e fr hheap
     simp only [Oi]at hv;subst hv
     refine⟨?_,cs',e,fr,hheap,kP n hlay htr⟩
     exact(Array.getElem?_eq_some_iff.1 hheap).1
   · cases hv
 · cases hj
end Go.Ev
namespace Go.Ev
open Go.RowKit
def fzR (id len:Nat) (L:EVal) (v v2:EVal):Prop:=v2=v∨∃cap,v=.slice id 0 len cap∧capOK len cap=true∧v2=L
def fzL (id len:Nat) (L:EVal):List EVal→List EVal→Prop
 | [],[]=>True
 | a::l,b::m=>fzR id len L a b∧fzL id len L l m
 | _,_=>False
theorem pL {id len:Nat}{L:EVal}:∀ {l m:List EVal},fzL id len L l m→l.length=m.length
 | [],[],_=>rfl
 | a::l,b::m,h=>by simp only [List.length_cons,pL h.2]
theorem s7 {ρ ρ2:Loc}{id len:Nat}{L:EVal}(h1:ρ.le ρ2) (h2:∀cap u,capOK len cap=true→VRel ρ (.slice id 0 len cap) u→VRel ρ2 L u):∀ {l m:List EVal}{us:List Value},fzL id len L l m→VsRel ρ l us→VsRel ρ2 m us
 | [],[],_,_,h=>by cases h;exact .nil
 | a :: l,b::m,_,hf,h=>by
   cases h with
   | cons _ u _ us h hs=>
     refine .cons _ _ _ _ ?_ (s7 h1 h2 hf.2 hs)
     rcases hf.1 with rfl|⟨cap,rfl,hc,rfl⟩
     · exact h.mono h1
     · exact h2 _ _ hc h
theorem View.fzD {A:Option Nat}{P:Program}{s n m sz len:Nat}{ds:List Nat}{r:Option Nat}{fl fl2:List (Nat×EVal)}{l l2:List (Nat×Option bR)}{k k2:List (Nat×Option (Nat×TypeId))}{cells cells':List EVal}{e:TypeId}{lo hi:Nat}{sl:Bool}(id:Nat) (hid:id<16000)
  (hg:lookG l id=some (.row cells e lo hi sl)) (hk:keepL cells=some cells') (hlen:cells'.length=len*sz)
  (hf:∀p∈fl2,p.1<1000∧∃v,look fl p.1=some v∧fzR id len (.lsl (chunk sz len cells')) v p.2)
  (hl:∀p∈l2,p.1<16000∧p.1≠id∧∃o2,p.2=some o2∧(lookG l p.1=some o2∨∃cs1 cs2 e lo hi sl,lookG l p.1=some (.row cs1 e lo hi sl)∧o2=.row cs2 e lo hi sl∧fzL id len (.lsl (chunk sz len cells')) cs1 cs2))
  (hk2:∀p∈k2,p.1<250∧∃x,p.2=some x∧lookG k p.1=some x) :
  View A P (mkD s fl ds r) (mkH n l m k) (mkD s fl2 ds r) (mkH n l2 m k2):=by
 intro B0 W0 b t d ρ w F R
 have hg':(mkH n l m k).get id=some (.row cells e lo hi sl):=by rw [mkH_get hid];exact hg
 obtain⟨blk,C,hb,cs,hw,hrel,_⟩:=R.objs _ _ hg'
 obtain⟨h2,_⟩:=aZ hrel hk
 obtain⟨uss,c1,c2,c3,c4⟩:=cO sz len cells' _ h2 hlen
 let ρ2:Loc:={ ρ with fro:=fun q=>if q=blk then some cs.toList else ρ.fro q }
 have hlt:=R.lo _ _ _ hb
 have hnf:∀q pre,ρ.fro q=some pre→q≠blk:=fun q pre hq e=>by
  subst e;exact absurd hb (R.free q pre hq _ _ _ hg')
 have hle:ρ.le ρ2:=by
  refine⟨fun _ _ h=>h,fun q pre hq=>?_,fun _ _ _ h=>h⟩
  exact⟨[],by show(if q=blk then some cs.toList else ρ.fro q)=_;rw [if_neg (hnf q pre hq),List.append_nil];exact hq⟩
 have hfz:ρ.fz.le ρ2.fz:=by
  refine⟨fun _ _ h=>(by cases h),fun q pre hq=>?_,fun _ _ _ h=>(by cases h)⟩
  have hq':ρ.fro q=some pre:=hq
  exact⟨[],by show(if q=blk then some cs.toList else ρ.fro q)=_;rw [if_neg (hnf q pre hq'),List.append_nil];exact hq'⟩
 have key:∀cap u,capOK len cap=true→VRel ρ (.slice id 0 len cap) u→VRel ρ2 (.lsl (chunk sz len cells')) u:=by
  intro cap u hcap hv
  have key:∀c',len≤c'→VRel ρ2 (.lsl (chunk sz len cells')) (.slice (some ⟨blk,0,none⟩) len c'):=by
   intro c' hc
   have hcl:(chunk sz len cells').length=len:=aN _ _ _
   have:=VRel.lsl (ρ:=ρ2) (chunk sz len cells') uss blk 0 c' sz cs.toList (cs.toList.drop cells.length) (by show(if blk=blk then _ else _)=_;simp) (c1.mono hfz)
    (by rw [List.drop_zero,c2,List.take_append_drop]) (Nat.zero_le _) c3 (by rw [hcl];exact hc)
   rw [hcl]at this
   exact this
  cases hv with
  | slice _ _ _ c b' C' hb'=>rw [hb]at hb';cases hb';exact key _ (by simpa [capOK]using hcap)
  | slack _ _ _ _ c b' C' hb' hc hn=>rw [hb]at hb';cases hb';exact key _ hn
 have hkget:∀id x,(mkH n l2 m k2).k.get id=some x→(mkH n l m k).k.get id=some x:=by
  intro id x hg
  obtain⟨h1,x',h2,h3⟩:=hk2 _ (T.ofG_mem hg)
  simp only [Oi]at h2
  subst h2
  rw [mkH_k h1];exact h3
 have hget:∀q o2,(mkH n l2 m k2).get q=some o2→q≠id∧∃o,(mkH n l m k).get q=some o∧(o=o2∨∃cs1 cs2 e lo hi sl,o=.row cs1 e lo hi sl∧o2=.row cs2 e lo hi sl∧fzL id len (.lsl (chunk sz len cells')) cs1 cs2):=by
  intro q o2 hg
  obtain⟨h1,h2,o',h3,h4⟩:=hl _ (T.ofG_mem hg)
  simp only [Oi]at h3
  subst h3
  refine⟨h2,?_⟩
  rcases h4 with h4|⟨cs1,cs2,e',lo',hi',sl',h4,rfl,h5⟩
  · exact⟨_,by rw [mkH_get h1];exact h4,.inl rfl⟩
  · exact⟨_,by rw [mkH_get h1];exact h4,.inr ⟨_,_,_,_,_,_,rfl,rfl,h5⟩⟩
 refine⟨ρ2,Loc.leA_of hle,⟨F.size,fun j v hv=>?_,F.defers.mono hle,(FRel.mono hle F).round⟩,?_⟩
 · obtain ⟨h1,v0,h3,h4⟩:=hf _ (eI hv)
   have:=F.tmps j v0 (by show(T.ofL fl).get j=_;rw [T.get_ofL _ _ h1];exact h3)
   rcases h4 with rfl|⟨cap,rfl,hc,rfl⟩
   · exact this.mono hle
   · exact key _ _ hc this
 · refine ⟨R.below,R.base,R.dom,R.lo,fun i j o1 o2 b' C1 C2 g1 g2 r1 r2=>?_,fun q o hg=>?_,fun b' p hb'=>?_,fun b' p hb' q C' o hg hr=>?_,fun b' hb'=>?_,R.mdom,fun q n' e' hk=>?_,fun q n' e' hk=>R.tnew q n' e' (hkget _ _ hk),fun i1 n1 e1 i2 n2 e2 b1 C1 C2 h1 h2=>R.tinj i1 n1 e1 i2 n2 e2 b1 C1 C2 (hkget _ _ h1) (hkget _ _ h2)⟩
   · obtain ⟨_,p1,e1,_⟩:=hget _ _ g1
     obtain⟨_,p2,e2,_⟩:=hget _ _ g2
     exact R.inj _ _ _ _ _ _ _ e1 e2 r1 r2
   · obtain ⟨_,o0,e1,e2⟩:=hget _ _ hg
     obtain⟨b',C',hb',r⟩:=R.objs _ _ e1
     refine⟨b',C',hb',?_⟩
     rcases e2 with rfl|⟨cs1,cs2,e',lo',hi',sl',rfl,rfl,h5⟩
     · exact r.mono hle
     · obtain ⟨cs',r1,r2,r3,r4⟩:=r
       have hln:=pL h5
       exact⟨cs',r1,by rw [←hln];exact s7 hle key h5 r2,by rw [←hln];exact r3,r4⟩
   · have:(if b'=blk then some cs.toList else ρ.fro b')=some p:=hb'
     split at this
     · rename_i e';subst e';cases this;exact⟨cs,e,_,hw,[],by simp⟩
     · exact R.fz b' p this
   · obtain ⟨hne,o0,e1,_⟩:=hget _ _ hg
     have:(if b'=blk then some cs.toList else ρ.fro b')=some p:=hb'
     split at this
     · rename_i e';subst e'
       exact hne (R.inj _ _ _ _ _ _ _ e1 hg' hr hb)
     · exact R.free b' p this q C' o0 e1 hr
   · show (if b'=blk then some cs.toList else ρ.fro b')=_
     rw [if_neg (by omega)];exact R.fz0 b' hb'
   · obtain ⟨x,h1,h2⟩:=R.toks q n' e' (hkget _ _ hk)
     refine⟨x,h1,fun b' C' hx=>?_⟩
     obtain⟨hB,cs',ti',pre',hcs,hti',hcsz,hpre',hpl⟩:=h2 b' C' hx
     exact⟨hB,cs',ti',pre',hcs,hti',hcsz,by show(if b'=blk then some cs.toList else ρ.fro b')=_;rw [if_neg (hnf _ _ hpre')];exact hpre',hpl⟩
theorem View.fz {A:Option Nat}{P:Program}{s n m sz len:Nat}{fl fl2:List (Nat×EVal)}{l l2:List (Nat×Option bR)}{k k2:List (Nat×Option (Nat×TypeId))}{cells cells':List EVal}{e:TypeId}{lo hi:Nat}{sl:Bool}(id:Nat) (hid:id<16000)
  (hg:lookG l id=some (.row cells e lo hi sl)) (hk:keepL cells=some cells') (hlen:cells'.length=len*sz)
  (hf:∀p∈fl2,p.1<1000∧∃v,look fl p.1=some v∧fzR id len (.lsl (chunk sz len cells')) v p.2)
  (hl:∀p∈l2,p.1<16000∧p.1≠id∧∃o2,p.2=some o2∧(lookG l p.1=some o2∨∃cs1 cs2 e lo hi sl,lookG l p.1=some (.row cs1 e lo hi sl)∧o2=.row cs2 e lo hi sl∧fzL id len (.lsl (chunk sz len cells')) cs1 cs2))
  (hk2:∀p∈k2,p.1<250∧∃x,p.2=some x∧lookG k p.1=some x) :
  View A P (mkF s fl) (mkH n l m k) (mkF s fl2) (mkH n l2 m k2):=
 View.fzD (ds:=[]) (r:=none) id hid hg hk hlen hf hl hk2
end Go.Ev
namespace Go.Ev
open Go.RowKit
end Go.Ev
namespace Go.Ev
open Go.RowKit
theorem mkH_fz {n m:Nat}{l:List (Nat×Option bR)}{k:List (Nat×Option (Nat×TypeId))}:(mkH n l m k).fz=decide (128≤m % 1024):=(rfl)
theorem ndEq_yes {P:Program}{ty el:TypeId}(h:P.underlying ty=some (.slice el)):ndEq P ty (some (.lsl [])) (some .nilslice)=true:=by
 unfold ndEq;rw [h]
theorem mkD_putd {n:Nat}{l:List (Nat×EVal)}{ds:List Nat}{r:Option Nat}{i:Nat}{v:EVal}(h:i<n):(mkD n l ds r).putd (some i) v=mkD n ((i,v)::l) ds r:=by
 unfold EFr.putd mkD
 simp only [Nat.blt_eq,Bool.cond_eq_ite,h,if_true]
 rfl
theorem mkD_putd_none {n:Nat}{l:List (Nat×EVal)}{ds:List Nat}{r:Option Nat}{v:EVal}:(mkD n l ds r).putd none v=mkD n l ds r:=(rfl)
theorem mkD_tmps {n:Nat}{l:List (Nat×EVal)}{ds:List Nat}{r:Option Nat}:(mkD n l ds r).tmps=T.ofL l:=(rfl)
theorem mkD_defers {n:Nat}{l:List (Nat×EVal)}{ds:List Nat}{r:Option Nat}:(mkD n l ds r).defers=ds:=(rfl)
section
variable {P:Program}{g:G}{K:aH}
theorem View.mode {A:Option Nat}{f:EFr}{n m:Nat}{l:List (Nat×Option bR)}{k:List (Nat×Option (Nat×TypeId))}(m':Nat) (hm:m % 1099511627776≤m' % 1099511627776):View A P f (mkH n l m k) f (mkH n l m' k):=fun B0 W0 b t d ρ w F R=>
 ⟨ρ,Loc.leA_refl,F,R.below,R.base,R.dom,R.lo,R.inj,R.objs,R.fz,R.free,R.fz0,fun id q hid=>R.mdom id q (Nat.le_trans hm hid),R.toks,R.tnew,R.tinj⟩
def Ends2 (P:Program) (g:G) (fn:Func) (k:EVal→H→Prop):dG:=fun e f h=>
 (match e with | .normal=>True | .ret=>True | .exit _=>False)∧∃h2 es,cT h f.defers=some h2∧resultsE P g h2 f.tmps fn.results.toList=some es∧k (one es) h2
theorem uU {ρ ρ':Loc}{B0:Nat}{W0:eF}{h:H}{w:World}(R:HRel P B0 W0 ρ h w) (hl:ρ.leA (some h.n) ρ'):ρ.le ρ':=by
 have hl:=hl _ rfl
 refine⟨fun id x hx=>?_,hl.fro,hl.tau⟩
 rcases Nat.lt_or_ge id h.n with h1|h1
 · exact hl.own id x h1 hx
 · rw [R.dom id h1]at hx;cases hx
theorem CallT.intro {f:FuncId}{args:List EVal}{h:H}{k:EVal→H→Prop}{fn:Func}(hfn:P.funcs[f]? = some fn) {c:Code}(hc:fn.body=some c)
  (H1:Top (some h.n) P g K c (m5 fn args) h (Ends2 P g fn k)):CallT P g K f args h k:=by
 intro B0 W0 G hK vs ρ w hvs R cs
 let b:Frame:={ (default:Frame)with fn:=f,kind:=.normal,roundOf:=none }
 have henter:Frame.enter P f vs .normal=fr b (vs++Array.replicate (fn.ntmps-vs.size) undef) [] [.code c]:=by
  simp [Frame.enter,fr,hfn,hc,b]
 have F0:FRel ρ (m5 fn args) b (vs++Array.replicate (fn.ntmps-vs.size) undef) []:=by
  have hl:args.length=vs.size:=by rw [hvs.length];simp
  refine⟨?_,?_,.nil,trivial⟩
  · simp only [Array.size_append,Array.size_replicate]
    show _=Nat.max fn.ntmps args.length
    rw [hl]
    simp only [Nat.max_def];split<;>omega
  · refine fU args 0 _ _ (fun j e hj=>?_) (fun i e hi hor=>?_)
    · obtain ⟨u,hu,hr⟩:=hvs.get hj
      have hlt:j<vs.size:=by have:=(List.getElem?_eq_some_iff.1 hu).1;simpa using this
      have:(vs++Array.replicate (fn.ntmps-vs.size) undef).getD (0+j) undef=u:=by
       rw [Array.getD_eq_getD_getElem?,Nat.zero_add,Array.getElem?_append_left hlt]
       have:vs[j]? = some u:=by simpa using hu
       rw [this];rfl
      rw [this];exact hr
    · have:=T.get_full _ _ _ hi
      cases this
      have:(vs++Array.replicate (fn.ntmps-vs.size) undef).getD i undef=undef:=by
       rw [Array.getD_eq_getD_getElem?,Array.getElem?_append_right (by omega),Array.getElem?_replicate]
       split<;>rfl
      rw [this];exact bA _
 obtain⟨e,f1,h1,⟨hend,h2,es,hta,hes,hk⟩,t1,d1,w1,ρ1,l1,F1,R1,A1⟩:=H1 B0 W0 G hK b _ [] [] cs ρ w F0 R
 have hle:=uU R l1
 rw [←henter]at A1
 have fin:∀(todo:List Item),Steps P (lone (Frame.enter P f vs .normal) cs w) (lone { fr b t1 d1 todo with mode:=.returning } cs w1) →
   ∃(e:Ending) (w':World) (fr':Frame),(∃v h' u ρ',k v h'∧e=.returned u∧ρ.le ρ'∧VRel ρ' v u∧HRel P B0 W0 ρ' h' w')∧Comes P (lone (Frame.enter P f vs .normal) cs w) (lone fr' cs w') e∧fr'.fn=f∧fr'.leaving P w' e:=by
  intro todo hs
  obtain⟨w2,R2,s2⟩:=dK (b:=b) (todo:=todo) (t:=t1) (cs:=cs) F1.defers R1 hta
  obtain⟨us,hu1,hu2⟩:=cH G R2 F1.tmps _ _ hes
  refine⟨.returned (if h:us.toArray.size=1 then us.toArray[0]else .tuple us.toArray),w2,_,⟨_,_,_,ρ1,hk,rfl,hle,uM hu2,R2⟩,Steps.trans hs s2,rfl,rfl,rfl,rfl,fn,hfn,?_⟩
  show(results fn t1).run P w2=_
  unfold results
  rw [Array.mapM_eq_mapM_toList]
  simp only [Sem.run_bind,Sem.run_map,Sem.run_pure]
  have:=congrArg (fun q=>(q.andThen fun a w'=>(Result.ok (a.toArray:Array Value) w':Result (Array Value))).andThen fun vs w'=>(Result.ok (if h:vs.size=1 then vs[0]else Value.tuple vs) w':Result Value)) hu1
  exact this
 cases e with
 | ret=>
   obtain⟨k',s1⟩:=A1
   exact fin _ (Steps.trans s1 (.one (zK rfl)))
 | normal=>exact fin _ (Steps.trans A1 (.one (zN rfl)))
 | exit id=>exact hend.elim
theorem CallT.mono {f:FuncId}{args:List EVal}{h:H}{k k':EVal→H→Prop}(H1:CallT P g K f args h k) (hk:∀v h',k v h'→k' v h'):CallT P g K f args h k':=by
 intro B0 W0 G hK vs ρ w hvs R
 refine(H1 B0 W0 G hK vs ρ w hvs R).mono ?_
 rintro e w' ⟨v,h',u,ρ',h1,rest⟩
 exact⟨v,h',u,ρ',hk _ _ h1,rest⟩
def qI (id:Nat) (k:EVal→H→Prop):dG:=fun e _ h=>match h.get id with
 | some (.loop _ _ f t ps a b d)=>match e with
   | .normal=>k (.bool true) (h.put id (.loop .ready none f t ps a b d))
   | .ret=>k (.bool false) (h.put id (.loop .done (some .ret) f t ps a b d))
   | .exit i=>k (.bool false) (h.put id (.loop .done (some (.exit i)) f t ps a b d))
 | _=>False
def wF (A:Option Nat) (P:Program) (g:G) (K:aH) (id:Nat) (y:Code) (k:EVal→H→Prop):dG:=fun e f h=>e=.normal∧match h.get id with
 | some (.loop .ready pend n t ps a b d)=>Top A P g K y f (h.put id (.loop .busy pend n t ps a b d)) (qI id k)
 | _=>False
theorem RoundT.intro {id:Nat}{args:List EVal}{h:H}{k:EVal→H→Prop}{st:LoopState}{pend:Option Code}{n dd:Nat}{t t':T EVal}{ps:List Tmp}{x y:Code}
  (hg:h.get id=some (.loop st pend n t ps x y dd)) (hsp:bK n t ps args=some t')
  (H1:Top (some h.n) P g K x ⟨n,t',[],some id⟩ h (wF (some h.n) P g K id y k)):RoundT P g K id args h k:=by
 intro B0 W0 G hK l C vs ρ w c cs hid hvs R
 obtain⟨L,hw,hL1,hL2,hL3,hL4,hL5,hL6,hL7,hgo,_⟩:=fQ R hid hg
 obtain⟨p1,p2,p3⟩:=dY ps args vs.toList t t' L.tmps hsp hL4 hL3 hvs
 let tm:=(ps.zip vs.toList).foldl (fun(a:Array Value) (x:Tmp×Value)=>a.setIfInBounds x.1 x.2) L.tmps
 have hyield:(Instr.yield l vs).run P w=.ok (.round l L.fn tm x y) w:=by
  have hsz:¬(vs.size≠L.params.size):=by
   rw [←hL5]at p1;simp at p1;omega
  have hfold:(L.params.zip vs).foldl (fun(tmps:Array Value) (x:Tmp×Value)=>tmps.setIfInBounds x.1 x.2) L.tmps=tm:=by
   rw [←Array.foldl_toList,Array.toList_zip,hL5]
  simp only [Instr.yield,Instr.getLoop,Sem.run_bind,hgo,Result.andThen_ok,Sem.run_pure,if_neg hsz]
  rw [hL6,hL7]
  exact congrArg (fun q=>Result.ok (Next.round l L.fn q x y) w) hfold
 let b:Frame:={ (default:Frame)with fn:=L.fn,kind:=.normal,roundOf:=some l }
 have hround:Frame.round l L.fn tm x y .normal=fr b tm [] [.code x,.beginRound,.code y]:=rfl
 have F:FRel ρ ⟨n,t',[],some id⟩ b tm []:=⟨p3,p2,.nil,⟨C,hid⟩⟩
 obtain⟨e1,f1,hh1,hm1,t1,d1,w1,ρ1,l1,F1,R1,A1⟩:=H1 B0 W0 G hK b tm [] [.beginRound,.code y] (c::cs) ρ w F R
 have hle1:=uU R l1
 unfold wF at hm1
 obtain⟨rfl,hm1⟩:=hm1
 split at hm1
 rotate_left
 · exact hm1.elim
 rename_i pend' n' tt pp aa bb dd' hg1
 have hid1:=hle1.own _ _ hid
 obtain⟨L1,hw1,hM1,hM2,hM3,hM4,hM5,hM6,hM7,hgo1,hput1⟩:=fQ R1 hid1 hg1
 obtain⟨hso1,R2⟩:=hput1 .busy pend' { L1 with state:=.busy } (by cases hM2;rfl)
 have hbegin:(Instr.beginRound l).run P w1=.ok () { w1 with heap:=w1.heap.setIfInBounds l (.loop { L1 with state:=.busy }) }:=by
  simp [Instr.beginRound,Instr.getLoop,hgo1,hso1,hM1]
 obtain⟨e2,f2,hh2,hm2,t2,d2,w2,ρ2,l2,F2,R3,A2⟩:=hm1 B0 W0 G hK b t1 d1 [] (c::cs) ρ1 _ F1 R2
 have hle2:ρ.le ρ2:=uU R (Loc.leA_trans l1 l2)
 have s1:Steps P (lone (Frame.round l L.fn tm x y .normal) (c::cs) w) (lone (fr b t1 d1 [.code y]) (c::cs) { w1 with heap:=w1.heap.setIfInBounds l (.loop { L1 with state:=.busy }) }):=by
  rw [hround]
  exact Steps.trans A1 (.one (jO rfl hbegin))
 unfold qI at hm2
 split at hm2
 rotate_left
 · exact hm2.elim
 rename_i st3 pend3 n3 t3 p3 a3 b3 d3 hg3
 have hid2:=hle2.own _ _ hid
 obtain⟨L2,hw2,hN1,hN2,hN3,hN4,hN5,hN6,hN7,hgo2,hput2⟩:=fQ R3 hid2 hg3
 have hend:∀jump:Option Code,(Instr.endRound l jump).run P w2=.ok (.bool jump.isNone) { w2 with heap:=w2.heap.setIfInBounds l (.loop { L2 with state:=if jump.isNone then .ready else .done,pending:=jump }) }:=by
  intro jump
  obtain⟨hso,_⟩:=hput2 (if jump.isNone then .ready else .done) jump { L2 with state:=if jump.isNone then .ready else .done,pending:=jump } rfl
  simp only [Instr.endRound,Instr.getLoop,Sem.run_bind,hgo2,Result.andThen_ok,Sem.run_pure,hso]
 cases e2 with
 | normal=>
   obtain⟨_,R4⟩:=hput2 .ready none { L2 with state:=.ready,pending:=none } rfl
   refine⟨_,_,.bool true,ρ2,_,L.fn,tm,x,y,hm2,hyield,hle2,.bool _,R4,Steps.trans s1 (Steps.trans A2 (.one ?_))⟩
   exact lM rfl rfl (hend none)
 | ret=>
   obtain⟨_,R4⟩:=hput2 .done (some .ret) { L2 with state:=.done,pending:=some .ret } rfl
   obtain⟨k',A2⟩:=A2
   refine⟨_,_,.bool false,ρ2,_,L.fn,tm,x,y,hm2,hyield,hle2,.bool _,R4,Steps.trans s1 (Steps.trans A2 (.one ?_))⟩
   exact lL rfl rfl (hend (some .ret))
 | exit i=>
   obtain⟨_,R4⟩:=hput2 .done (some (.exit i)) { L2 with state:=.done,pending:=some (.exit i) } rfl
   obtain⟨k',hk',A2⟩:=A2
   refine⟨_,_,.bool false,ρ2,_,L.fn,tm,x,y,hm2,hyield,hle2,.bool _,R4,Steps.trans s1 (Steps.trans A2 (.one ?_))⟩
   exact jM rfl rfl (by rw [hk'];rfl) (hend (some (.exit i)))
def mO (id:Nat) (f1:EFr) (Q:dG):EVal→H→Prop:=fun _ h=>match h.get id with
 | some (.loop st pend f t p a b d)=>st≠.busy∧(match pend with
   | none=>Q .normal f1 (h.put id (.loop .exhausted pend f t p a b d))
   | some .ret=>Q .ret f1 (h.put id (.loop .exhausted pend f t p a b d))
   | some (.exit i)=>Q (.exit i) f1 (h.put id (.loop .exhausted pend f t p a b d))
   | _=>False)
 | _=>False
theorem Top.rangeFunc {A:Option Nat}(hng:fL P) {f:Operand}{ps:Array Tmp}{x y:Code}{n:Nat}{tl:T EVal}{ds:List Nat}{h:H}{Q:dG}{kf:FuncId}{caps:List EVal}
  (hf:ev tl f=some (.func kf caps)) (hb:nT P kf=true)
  (hc:CallT P g K kf (.yieldf (h.n+1)::caps) ((h.new (.deferred false)).new (.loop .ready none n tl ps.toList x y 0)) (mO (h.n+1) ⟨n,tl,h.n::ds,none⟩ Q)) :
  Top A P g K (.rangeFunc f ps x y) ⟨n,tl,ds,none⟩ h Q:=by
 intro B0 W0 G hK b t d k cs ρ w F R
 unfold nT at hb
 split at hb
 rotate_left
 · cases hb
 rename_i fn hfn
 have hv:=F.erel _ _ hf
 generalize hfe:({ tmps:=t,defers:=d }:Act).eval f=fv at hv
 cases hv with
 | func _ _ vs hcs=>
 have hb0:b.roundOf=none:=by
  have hround:=F.round
  cases hq:b.roundOf with
  | none=>rfl
  | some l=>rw [hq]at hround;exact hround.elim
 have Rd:=R.new (.deferred false) (.deferred (some [])) 0 rfl
 let L:Loop:={ state:=.ready,pending:=none,fn:=b.fn,tmps:=t,params:=ps,assign:=x,body:=y,defers:=w.heap.size }
 have hle1:=Loc.le_add (x:=(w.heap.size,0)) R.fresh
 have hle2:=Loc.le_add (x:=((w.alloc (.deferred (some []))).heap.size,0)) Rd.fresh
 have Rl:=Rd.new (.loop .ready none n tl ps.toList x y 0) (.loop L) 0 ⟨L,rfl,rfl,rfl,F.size,(F.tmps.mono hle1).mono hle2,rfl,rfl,rfl⟩
 have hrun:(Instr.enterLoop b.fn t ps x y b.roundOf).run P w=.ok ((w.alloc (.deferred (some []))).heap.size,[{ target:=.collected w.heap.size,args:=#[] }]) ((w.alloc (.deferred (some []))).alloc (.loop L)):=by
  rw [hb0];simp [Instr.enterLoop,L]
 obtain⟨bl,hbl⟩:∃bl,bl=(w.alloc (.deferred (some []))).heap.size:=⟨_,rfl⟩
 rw [←hbl]at hrun hle2 Rl
 have hle:=Loc.le_trans hle1 hle2
 have hl:=Loc.add_self (ρ.add h.n (w.heap.size,0)) (h.n+1) (bl,0)
 have hargs:VsRel ((ρ.add h.n (w.heap.size,0)).add (h.n+1) (bl,0)) (.yieldf (h.n+1)::caps) (#[Value.func (.yield bl) #[] #[]]++vs).toList:=by
  rw [Array.toList_append]
  exact .cons _ _ _ _ (.yieldf _ _ _ hl) (hcs.mono hle)
 have F2:FRel ((ρ.add h.n (w.heap.size,0)).add (h.n+1) (bl,0)) ⟨n,tl,h.n::ds,none⟩ b t ([{ target:=.collected w.heap.size,args:=#[] }]++d):=by
  refine⟨F.size,(F.tmps.mono hle1).mono hle2,?_,?_⟩
  · exact .cons _ _ 0 _ _ (hle2.own _ _ (Loc.add_self _ _ _)) ((F.defers.mono hle1).mono hle2)
  · rw [hb0];trivial
 obtain⟨mark,hmark⟩:∃m:List Deferred,m=[{ target:=.collected w.heap.size,args:=#[] }]:=⟨_,rfl⟩
 rw [←hmark]at hrun F2
 obtain⟨e1,w3,fr1,⟨v,h3,u,ρ3,hm,rfl,hle3,hv3,R3⟩,hcomes,hfn1,hleave⟩:=hc B0 W0 G hK _ _ _ hargs Rl (fr b t (mark++d) (.inRangeFunc bl::k)::cs)
 have s1:Steps P (lone (fr b t d (.code (.rangeFunc f ps x y)::k)) cs w) (lone (fr b t (mark++d) (.endRangeFunc bl::k)) cs w3):=by
  refine .head (lK hng hrun hfe hfn hb) (Steps.trans hcomes (.one ?_))
  exact step_leave_returned hleave
 unfold mO at hm
 split at hm
 rotate_left
 · exact hm.elim
 rename_i st pend n' tt pp aa bb dd hg
 obtain⟨hst,hm⟩:=hm
 have hl3:=hle3.own _ _ hl
 obtain⟨L',hw3,hL1,hL2,hL3,hL4,hL5,hL6,hL7,hgo,hput⟩:=fQ R3 hl3 hg
 obtain⟨hso,R4⟩:=hput .exhausted pend { L' with state:=.exhausted } (by cases hL2;rfl)
 have hend:(Instr.endLoop bl).run P w3=.ok pend { w3 with heap:=w3.heap.setIfInBounds bl (.loop { L' with state:=.exhausted }) }:=by
  have hst':L'.state≠LoopState.busy:=by rw [hL1];exact hst
  rw [←hL2]
  simp [Instr.endLoop,Instr.getLoop,hgo,hst',hso]
 have s2:=Steps.trans s1 (.one (gL (P:=P) (b:=b) (t:=t) (d:=mark++d) (k:=k) (cs:=cs) hend))
 have F4:=F2.mono hle3
 have hleA:ρ.leA A ρ3:=Loc.leA_of (Loc.le_trans hle hle3)
 cases pend with
 | none=>exact⟨.normal,_,_,hm,_,_,_,_,hleA,F4,R4,s2⟩
 | some c=>
   cases c with
   | ret=>exact⟨.ret,_,_,hm,_,_,_,_,hleA,F4,R4,k,s2⟩
   | exit i=>exact⟨.exit i,_,_,hm,_,_,_,_,hleA,F4,R4,k,rfl,s2⟩
   | _=>exact hm.elim
end
end Go.Ev


namespace Go.Ev
open Go.RowKit
inductive V where
 | raw (e:EVal)
 | bool (b:Bool)
 | int (k:IntKind) (n:Int)
 | str (l:List Nat)
 | nils
 | ptr (id off:Nat)
 | sl (id off len:Nat) (cap:ECap)
 | agg (l:List V)
 | tup (l:List V)
 | fl (w n:Nat) (f:Nat→List V)
 | el (els:List (List V))
 | gl (id:Nat)
 | lptr (cells:List V) (off:Nat)
 | eptr (s:V) (sz n:Nat) (i:Int) (off:Nat)
 | fn (f:FuncId) (caps:List V)
noncomputable section
def V.kept:V→Bool
 | .bool _=>true
 | .int _ _=>true
 | .str _=>true
 | .fl _ _ _=>true
 | .el _=>true
 | .lptr _ _=>true
 | .raw .nilp=>true
 | .raw .nilfunc=>true
 | _=>false
def keptB:List V→Bool
 | []=>true
 | v::l=>bif v.kept then keptB l else false
def okW (w:Nat) (l:List V):Bool:=Nat.beq l.length w&&keptB l
mutual
def V.c:V→EVal
 | .raw e=>e
 | .bool b=>.bool b
 | .int k n=>.int k n
 | .str l=>.str l
 | .nils=>.nilslice
 | .ptr i o=>.ptr i o
 | .sl i o n c=>.slice i o n c
 | .agg l=>.agg (V.cs l)
 | .tup l=>.tup (V.cs l)
 | .fl w n f=>.lsl ((List.range n).map fun i=>bif okW w (f i)then V.cs (f i)else List.replicate w (.bool false))
 | .el els=>.lsl (V.css els)
 | .gl _=>.unk
 | .lptr l o=>.lptr (V.cs l) o
 | .eptr s sz _ i off=>(eShift (i.toNat*sz+off) (V.c s)).getD .unk
 | .fn f l=>.func f (V.cs l)
def V.cs:List V→List EVal
 | []=>[]
 | v::l=>V.c v::V.cs l
def V.css:List (List V)→List (List EVal)
 | []=>[]
 | v::l=>V.cs v::V.css l
end
theorem V.cs_map (l:List V):V.cs l=l.map V.c:=by
 induction l with
 | nil=>rw [V.cs];rfl
 | cons v l ih=>rw [V.cs,ih];rfl
theorem V.css_map (l:List (List V)):V.css l=l.map V.cs:=by
 induction l with
 | nil=>rw [V.css];rfl
 | cons v l ih=>rw [V.css,ih];rfl
theorem V.cs_length (l:List V):(V.cs l).length=l.length:=by rw [V.cs_map,List.length_map]
theorem V.css_length (l:List (List V)):(V.css l).length=l.length:=by rw [V.css_map,List.length_map]
theorem V.cs_append (a b:List V):V.cs (a++b)=V.cs a++V.cs b:=by simp only [V.cs_map,List.map_append]
theorem V.css_append (a b:List (List V)):V.css (a++b)=V.css a++V.css b:=by simp only [V.css_map,List.map_append]
theorem V.cs_get (l:List V) (i:Nat):(V.cs l)[i]? = (l[i]?).map V.c:=by rw [V.cs_map,List.getElem?_map]
def lookA {α:Type}:List (Nat×α)→Nat→Option α
 | [],_=>none
 | (j,v)::l,i=>bif Nat.beq j i then some v else lookA l i
theorem gO {α β:Type}{g:α→β}(l:List (Nat×α)) (i:Nat):lookG (l.map fun p=>(p.1,some (g p.2))) i=(lookA l i).map g:=by
 induction l with
 | nil=>rfl
 | cons p l ih=>
   obtain⟨j,v⟩:=p
   simp only [List.map_cons,lookG,lookA,ih]
   by_cases h:j=i
   · simp [h]
   · have hb:Nat.beq j i=false:=by
      cases hq:Nat.beq j i
      · rfl
      · exact absurd (Nat.eq_of_beq_eq_true hq) h
     simp [h,hb]
theorem kO {α β:Type}{g:α→β}(l:List (Nat×Option α)) (i:Nat):lookG (l.map fun p=>(p.1,p.2.map g)) i=(lookA l i).bind fun x=>x.map g:=by
 induction l with
 | nil=>rfl
 | cons p l ih=>
   obtain⟨j,v⟩:=p
   simp only [List.map_cons,lookG,lookA,ih]
   by_cases h:j=i
   · simp [h]
   · have hb:Nat.beq j i=false:=by
      cases hq:Nat.beq j i
      · rfl
      · exact absurd (Nat.eq_of_beq_eq_true hq) h
     simp [h,hb]
structure DRow where
 cells:List V
 e:TypeId
 sl:Bool
inductive DObj where
 | row (r:DRow)
 | iter (s:List Nat) (pos:Nat)
 | loop (st:LoopState) (pend:Option Code) (sz:Nat) (fr:List (Nat×V)) (ps:List Tmp) (x y:Code)
 | dfr (b:Bool)
 | sset (ks:List (List Nat))
 | iset (ks:List Int)
 | mp (es:List (V×V×Nat)) (c:Nat)
structure Fr where
 l:List (Nat×Option V)
 ds:List Nat
 rd:Option Nat
 sh:List (List (Nat×V))
structure D where
 fr:Fr
 n:Nat
 hp:List (Nat×Option DObj)
 m:Nat
 tk:List (Nat×(List (List V)×TypeId))
def DRow.o (r:DRow):bR:=.row (V.cs r.cells) r.e 0 0 r.sl
def uE (i:Nat):List (List Nat)→List (EVal×EVal×Nat)
 | []=>[]
 | k::l=>(.str k,.bool true,i)::uE (i+1) l
def uF (i:Nat):List Int→List (EVal×EVal×Nat)
 | []=>[]
 | k::l=>(.int .i64 k,.bool true,i)::uF (i+1) l
def DObj.o:DObj→bR
 | .row r=>r.o
 | .iter s p=>.iter s p
 | .loop st pend sz fr ps x y=>.loop st pend sz (T.ofL (fr.map fun p=>(p.1,p.2.c))) ps x y 0
 | .dfr b=>.deferred b
 | .sset ks=>.map (uE 0 ks) ks.length
 | .iset ks=>.map (uF 0 ks) ks.length
 | .mp es c=>.map (es.map fun e=>(e.1.c,e.2.1.c,e.2.2)) c
def oO (x:List (List V)×TypeId):Nat×TypeId:=(x.1.length,x.2)
def D.H (d:D):H:=mkH d.n (d.hp.map fun p=>(p.1,p.2.map DObj.o)) d.m (d.tk.map fun p=>(p.1,some (oO p.2)))
def V.ct (tk:List (Nat×(List (List V)×TypeId))):V→EVal
 | .gl id=>match lookA tk id with
   | some x=>.gsl id (V.css x.1)
   | none=>.unk
 | v=>v.c
def D.obj (d:D) (id:Nat):Option DObj:=bif Nat.blt id 16000 then(match lookA d.hp id with|some r=>r|none=>none)else none
def D.row (d:D) (id:Nat):Option DRow:=match d.obj id with
 | some (.row r)=>some r
 | _=>none
def D.itr (d:D) (id:Nat):Option (List Nat×Nat):=match d.obj id with
 | some (.iter s p)=>some (s,p)
 | _=>none
theorem D.obj_get {d:D}{id:Nat}{r:DObj}(h:d.obj id=some r):d.H.get id=some r.o:=by
 unfold D.obj at h
 cases hb:Nat.blt id 16000 with
 | false=>rw [hb]at h;cases h
 | true=>
   rw [hb]at h
   rw [Nat.blt_eq]at hb
   unfold D.H
   rw [mkH_get hb,kO]
   simp only [cond_true]at h
   split at h
   · rename_i r' hr
     subst h;rw [hr];rfl
   · cases h
theorem D.row_obj {d:D}{id:Nat}{r:DRow}(h:d.row id=some r):d.obj id=some (.row r):=by
 unfold D.row at h
 split at h
 · rename_i r' hr;cases h;exact hr
 · cases h
theorem D.itr_obj {d:D}{id:Nat}{r:List Nat×Nat}(h:d.itr id=some r):d.obj id=some (.iter r.1 r.2):=by
 unfold D.itr at h
 split at h
 · rename_i s p hr;cases h;exact hr
 · cases h
theorem D.row_get {d:D}{id:Nat}{r:DRow}(h:d.row id=some r):d.H.get id=some r.o:=D.obj_get (D.row_obj h)
def D.tok (d:D) (id:Nat):Option (List (List V)×TypeId):=bif Nat.blt id 250 then lookA d.tk id else none
theorem D.tok_get {d:D}{id:Nat}{x:List (List V)×TypeId}(h:d.tok id=some x):d.H.k.get id=some (oO x):=by
 unfold D.tok at h
 cases hb:Nat.blt id 250 with
 | false=>rw [hb]at h;cases h
 | true=>
   rw [hb]at h
   rw [Nat.blt_eq]at hb
   unfold D.H
   rw [mkH_k hb,gO,show lookA d.tk id=some x from h];rfl
def V.inr:V→Prop
 | .eptr _ _ n i _=>i.toNat<n
 | _=>True
structure Fits (sh:List (List (Nat×V))) (P:Program) (sz:Nat) (d:D) (f:EFr) (h:H):Prop where
 sz:f.sz=sz
 defers:f.defers=d.fr.ds
 round:f.round=d.fr.rd
 has:∀i,i<1000→f.tmps.has i
 tmps:∀i v,i<1000→lookA d.fr.l i=some (some v)→f.tmps.get i=some (v.ct d.tk)
 inr:∀i v,lookA d.fr.l i=some (some v)→v.inr
 sh:d.fr.sh=sh
 heap:h=d.H
 lens:∀id els e s,lookA d.tk id=some (els,e)→aG P e=some s→aL s (V.css els)=true
mutual
def ofE:EVal→Option V
 | .bool b=>some (.bool b)
 | .int k n=>some (.int k n)
 | .str l=>some (.str l)
 | .nilslice=>some .nils
 | .agg l=>match ajT l with
   | some l=>some (.agg l)
   | none=>none
 | .nilp=>some (.raw .nilp)
 | .gptr a b=>some (.raw (.gptr a b))
 | .nilmap=>some (.raw .nilmap)
 | .nilfunc=>some (.raw .nilfunc)
 | .nilif=>some (.raw .nilif)
 | .func f []=>some (.raw (.func f []))
 | _=>none
def ajT:List EVal→Option (List V)
 | []=>some []
 | e::l=>match ofE e,ajT l with
   | some a,some b=>some (a::b)
   | _,_=>none
end
mutual
theorem ofE_c:∀ {e:EVal}{v:V},ofE e=some v→v.c=e∧∀tk,v.ct tk=e
 | .bool b,v,h=>by simp only [ofE,Oi]at h;subst h;exact⟨by rw [V.c],fun _=>by rw [V.ct,V.c];simp⟩
 | .int k n,v,h=>by simp only [ofE,Oi]at h;subst h;exact⟨by rw [V.c],fun _=>by rw [V.ct,V.c];simp⟩
 | .str l,v,h=>by simp only [ofE,Oi]at h;subst h;exact⟨by rw [V.c],fun _=>by rw [V.ct,V.c];simp⟩
 | .nilslice,v,h=>by simp only [ofE,Oi]at h;subst h;exact⟨by rw [V.c],fun _=>by rw [V.ct,V.c];simp⟩
 | .agg l,v,h=>by
   simp only [ofE]at h
   split at h
   · rename_i l' hl
     simp only [Oi]at h;subst h
     have:=lU hl
     exact⟨by rw [V.c,this],fun _=>by rw [V.ct,V.c,this];simp⟩
   · cases h
 | .nilp,v,h=>by simp only [ofE,Oi]at h;subst h;exact⟨by rw [V.c],fun _=>by rw [V.ct,V.c];simp⟩
 | .gptr a b,v,h=>by simp only [ofE,Oi]at h;subst h;exact⟨by rw [V.c],fun _=>by rw [V.ct,V.c];simp⟩
 | .nilmap,v,h=>by simp only [ofE,Oi]at h;subst h;exact⟨by rw [V.c],fun _=>by rw [V.ct,V.c];simp⟩
 | .nilfunc,v,h=>by simp only [ofE,Oi]at h;subst h;exact⟨by rw [V.c],fun _=>by rw [V.ct,V.c];simp⟩
 | .nilif,v,h=>by simp only [ofE,Oi]at h;subst h;exact⟨by rw [V.c],fun _=>by rw [V.ct,V.c];simp⟩
 | .func f [],v,h=>by simp only [ofE,Oi]at h;subst h;exact⟨by rw [V.c],fun _=>by rw [V.ct,V.c];simp⟩
 | .func f (_::_),v,h=>by simp [ofE]at h
 | .unk,v,h=>by simp [ofE]at h
 | .ptr _ _,v,h=>by simp [ofE]at h
 | .slice _ _ _ _,v,h=>by simp [ofE]at h
 | .map _,v,h=>by simp [ofE]at h
 | .yieldf _,v,h=>by simp [ofE]at h
 | .iface _ _,v,h=>by simp [ofE]at h
 | .tup _,v,h=>by simp [ofE]at h
 | .lsl _,v,h=>by simp [ofE]at h
 | .lptr _ _,v,h=>by simp [ofE]at h
 | .gsl _ _,v,h=>by simp [ofE]at h
theorem lU:∀ {l:List EVal}{vs:List V},ajT l=some vs→V.cs vs=l
 | [],vs,h=>by simp only [ajT,Oi]at h;subst h;rw [V.cs]
 | e :: l,vs,h=>by
   simp only [ajT]at h
   split at h
   · rename_i a b ha hb
     simp only [Oi]at h;subst h
     rw [V.cs,(ofE_c ha).1,lU hb]
   · cases h
end
def dEv (d:D):Operand→Option V
 | .tmp i=>bif Nat.blt i 1000 then(match lookA d.fr.l i with|some v=>v|none=>none)else none
 | .const v=>match absV v with
   | some e=>ofE e
   | none=>none
 | .global g=>some (.raw (.gptr g 0))
 | .func f=>some (.raw (.func f []))
def axj (d:D):List Operand→Option (List V)
 | []=>some []
 | x :: l=>match dEv d x with
   | some a=>match axj d l with
     | some b=>some (a::b)
     | none=>none
   | none=>none
def V.cts (tk:List (Nat×(List (List V)×TypeId))) (l:List V):List EVal:=l.map (V.ct tk)
section
variable {P:Program}{sz:Nat}{d:D}{f:EFr}{h:H}{sh:List (List (Nat×V))}
theorem aF (F:Fits sh P sz d f h) {x:Operand}{v:V}(hx:dEv d x=some v):ev f.tmps x=some (v.ct d.tk):=by
 unfold dEv at hx
 split at hx
 · rename_i i
   cases hb:Nat.blt i 1000 with
   | false=>rw [hb]at hx;cases hx
   | true=>
     rw [hb]at hx
     rw [Nat.blt_eq]at hb
     simp only [cond_true]at hx
     split at hx
     · rename_i v' hv
       subst hx
       exact F.tmps _ _ hb hv
     · cases hx
 · rename_i c
   split at hx
   · rename_i e he
     rw [ev,he,(ofE_c hx).2]
   · cases hx
 · simp only [Oi]at hx;subst hx;rw [ev,V.ct,V.c];simp
 · simp only [Oi]at hx;subst hx;rw [ev,V.ct,V.c];simp
theorem ofE_inr {e:EVal}{v:V}(h:ofE e=some v):v.inr:=by
 cases v with
 | eptr s a b c o=>
   unfold ofE at h
   split at h<;>first|(cases h;done)|(split at h<;>cases h)
 | _=>trivial
theorem f8 (F:Fits sh P sz d f h) {x:Operand}{v:V}(hx:dEv d x=some v):v.inr:=by
 unfold dEv at hx
 split at hx
 · rename_i i
   cases hb:Nat.blt i 1000 with
   | false=>rw [hb]at hx;cases hx
   | true=>
     rw [hb]at hx
     simp only [cond_true]at hx
     split at hx
     · rename_i v' hv
       subst hx
       exact F.inr _ _ hv
     · cases hx
 · split at hx
   · exact ofE_inr hx
   · cases hx
 · simp only [Oi]at hx;subst hx;trivial
 · simp only [Oi]at hx;subst hx;trivial
theorem oF (F:Fits sh P sz d f h):∀ {l:List Operand}{vs:List V},axj d l=some vs→evs f.tmps l=some (V.cts d.tk vs)
 | [],vs,hx=>by simp only [axj,Oi]at hx;subst hx;rfl
 | x :: l,vs,hx=>by
   simp only [axj]at hx
   split at hx
   · rename_i a ha
     split at hx
     · rename_i b hb
       simp only [Oi]at hx;subst hx
       rw [evs,aF F ha,oF F hb];rfl
     · cases hx
   · cases hx
end
def V.plain:V→Bool
 | .gl _=>false
 | _=>true
def lR:List V→Bool
 | []=>true
 | v::l=>bif v.plain then lR l else false
def V.safe:V→Bool
 | .gl _=>false
 | .eptr _ _ _ _ _=>false
 | _=>true
theorem V.safe_ok {v:V}(h:v.safe=true):v.plain=true∧v.inr:=by
 cases v<;>first|exact⟨rfl,trivial⟩ | cases h
theorem V.ct_plain {v:V}(h:v.plain=true) (tk):v.ct tk=v.c:=by
 cases v<;>first|rfl|cases h
theorem j7 {l:List V}(h:lR l=true) (tk):V.cts tk l=V.cs l:=by
 induction l with
 | nil=>rw [V.cs];rfl
 | cons v l ih=>
   simp only [lR]at h
   cases hv:v.plain with
   | false=>rw [hv]at h;cases h
   | true=>
     rw [hv]at h
     rw [V.cs,←ih h,←V.ct_plain hv tk];rfl
end
end Go.Ev
namespace Go.Ev
open Go.RowKit
noncomputable section
def V.one:V→Bool
 | .bool _=>true
 | .int _ _=>true
 | .str _=>true
 | .nils=>true
 | .ptr _ _=>true
 | .sl _ _ _ _=>true
 | .fl _ _ _=>true
 | .el _=>true
 | .lptr _ _=>true
 | .raw .nilp=>true
 | .raw (.gptr _ _)=>true
 | .raw .nilmap=>true
 | .raw (.map _)=>true
 | .raw .nilfunc=>true
 | .raw .nilif=>true
 | .raw .zsl=>true
 | .raw (.zslt _)=>true
 | .raw (.func _ _)=>true
 | .fn _ _=>true
 | _=>false
def ones:List V→Bool
 | []=>true
 | v::l=>bif v.one then ones l else false
def V.cells:V→Option (List V)
 | .agg l=>bif ones l then some l else none
 | v=>bif v.one then some [v]else none
theorem V.one_c {v:V}(h:v.one=true):v.c.one=true∧v.c.cells=[v.c]:=by
 unfold V.one at h
 split at h<;>first|(simp only [V.c];exact⟨rfl,rfl⟩)|cases h
theorem aqB {l:List V}(h:ones l=true):allOne (V.cs l)=true:=by
 induction l with
 | nil=>rw [V.cs];rfl
 | cons v l ih=>
   simp only [ones]at h
   cases hv:v.one with
   | false=>rw [hv]at h;cases h
   | true=>
     rw [hv]at h
     rw [V.cs,allOne,(V.one_c hv).1,ih h];rfl
theorem V.cells_c {v:V}{l:List V}(h:v.cells=some l):v.c.cells=V.cs l∧allOne (V.cs l)=true∧v.plain=true:=by
 unfold V.cells at h
 split at h
 · rename_i l'
   cases ho:ones l' with
   | false=>rw [ho]at h;cases h
   | true=>
     rw [ho]at h
     simp only [cond_true,Oi]at h;subst h
     exact⟨by rw [V.c];rfl,aqB ho,rfl⟩
 · rename_i hn
   cases ho:v.one with
   | false=>rw [ho]at h;cases h
   | true=>
     rw [ho]at h
     simp only [cond_true,Oi]at h;subst h
     obtain⟨h1,h2⟩:=V.one_c ho
     refine⟨by rw [h2,V.cs,V.cs],by rw [V.cs,V.cs,allOne,h1];rfl,?_⟩
     cases v<;>first|rfl|cases ho
def setV (cs:List V) (o:Nat) (vs:List V):List V:=cs.take o++vs++cs.drop (o+vs.length)
theorem zP (cs:List V) (o:Nat) (vs:List V):V.cs (setV cs o vs)=setRange (V.cs cs) o (V.cs vs):=by
 unfold setV setRange
 rw [V.cs_append,V.cs_append,V.cs_length]
 simp only [V.cs_map,List.map_take,List.map_drop]
def u4 (place:Nat→Option (Nat×Nat)) (cells:List V):List (Nat×V)→Option (List V)
 | []=>some cells
 | (i, v)::rest=>
   match place i with
   | none=>none
   | some (off,size)=>match v.cells with
     | some vs=>bif Nat.beq vs.length size&&Nat.ble (off+size) cells.length then u4 place (setV cells off vs) rest else none
     | none=>none
theorem qZ {place:Nat→Option (Nat×Nat)}:∀ {ps:List (Nat×V)}{cells cs:List V},u4 place cells ps=some cs→fillE place (V.cs cells) (ps.map fun p=>(p.1,p.2.c))=some (V.cs cs)
 | [],cells,cs,h=>by simp only [u4,Oi]at h;subst h;rfl
 | (i, v) :: rest,cells,cs,h=>by
   simp only [u4]at h
   split at h
   · cases h
   · rename_i off size hp
     split at h
     · rename_i vs hvs
       cases hc:(Nat.beq vs.length size&&Nat.ble (off+size) cells.length)with
       | false=>rw [hc]at h;cases h
       | true=>
         rw [hc]at h
         simp only [Bool.and_eq_true,Nat.beq_eq,Nat.ble_eq]at hc
         have h1:fillE place (V.cs (setV cells off vs)) (rest.map fun p=>(p.1,p.2.c))=some (V.cs cs):=qZ h
         rw [zP,←(V.cells_c hvs).1]at h1
         simp only [List.map_cons,fillE,hp]
         rw [if_neg]
         · exact h1
         · rw [(V.cells_c hvs).1,V.cs_length,V.cs_length];omega
     · cases h
def pT (d:D):List (Nat×Operand)→Option (List (Nat×V))
 | []=>some []
 | (i, x)::l=>match dEv d x with
   | some a=>match pT d l with
     | some b=>some ((i,a)::b)
     | none=>none
   | none=>none
def nH:List (Nat×V)→Bool
 | []=>true
 | (_,v)::l=>bif v.plain then nH l else false
theorem oD {sh:List (List (Nat×V))}{P:Program}{sz:Nat}{d:D}{f:EFr}{h:H}(F:Fits sh P sz d f h):∀ {l:List (Nat×Operand)}{vs:List (Nat×V)},pT d l=some vs→nH vs=true→evParts f.tmps l=some (vs.map fun p=>(p.1,p.2.c))
 | [],vs,hx,_=>by simp only [pT,Oi]at hx;subst hx;rfl
 | (i, x) :: l,vs,hx,hp=>by
   simp only [pT]at hx
   split at hx
   · rename_i a ha
     split at hx
     · rename_i b hb
       simp only [Oi]at hx;subst hx
       simp only [nH]at hp
       cases hv:a.plain with
       | false=>rw [hv]at hp;cases hp
       | true=>
         rw [hv]at hp
         rw [evParts,aF F ha,oD F hb hp,V.ct_plain hv];rfl
     · cases hx
   · cases hx
def capV:V→Bool
 | .lptr _ _=>true
 | .el _=>true
 | .fl _ _ _=>true
 | .bool _=>true
 | .int _ _=>true
 | .str _=>true
 | _=>false
def yX:List V→Bool
 | []=>true
 | v::l=>bif capV v then yX l else false
theorem aqx:∀ {l:List V},yX l=true→vM (V.cs l)=true
 | [],_=>by rw [V.cs];rfl
 | v :: l,h=>by
   simp only [yX]at h
   cases hv:capV v with
   | false=>rw [hv]at h;cases h
   | true=>
     rw [hv]at h
     have:capB v.c=true:=by
      unfold capV at hv
      split at hv<;>first|(rw [V.c];rfl)|cases hv
     rw [V.cs,vM,this,aqx h];rfl
theorem qW {f:FuncId}{l:List V}(h:yX l=true):Go.Ev.keep1 (V.fn f l).c=some (V.fn f l).c:=by
 have:=aqx h
 rw [V.c]
 cases l with
 | nil=>rw [V.cs];rfl
 | cons a l=>rw [V.cs]at this ⊢;simp only [keep1,this,cond_true]
def V.keep1:V→Option V
 | .el els=>some (.el els)
 | .fl w n f=>some (.fl w n f)
 | .lptr cs o=>some (.lptr cs o)
 | .bool b=>some (.bool b)
 | .int k n=>some (.int k n)
 | .str l=>some (.str l)
 | .nils=>some (.el [])
 | .raw .nilp=>some (.raw .nilp)
 | .raw (.gptr a b)=>some (.raw (.gptr a b))
 | .raw .nilmap=>some (.raw .nilmap)
 | .raw .nilfunc=>some (.raw .nilfunc)
 | .raw .nilif=>some (.raw .nilif)
 | .raw .zsl=>some (.el [])
 | .raw (.zslt _)=>some (.el [])
 | .raw (.func f [])=>some (.raw (.func f []))
 | .fn f l=>bif yX l then some (.fn f l)else none
 | _=>none
def lY:List V→Option (List V)
 | []=>some []
 | v :: l=>match v.keep1 with
   | some a=>match lY l with
     | some b=>some (a::b)
     | none=>none
   | none=>none
theorem V.keep1_c {v w:V}(h:v.keep1=some w):Go.Ev.keep1 v.c=some w.c∧w.plain=true∧v.plain=true∧(∀l,v≠.agg l)∧(∀l,v≠.tup l)∧(∀a b c e,v≠.sl a b c e)∧w.c.one=true:=by
 unfold V.keep1 at h
 split at h<;>first|(simp only [Oi]at h;subst h;refine⟨by simp only [V.c,V.css];rfl,rfl,rfl,by simp,by simp,by simp,by simp only [V.c];rfl⟩)|(cases h;done)|skip
 rename_i f l
 cases hc:yX l with
 | false=>rw [hc]at h;cases h
 | true=>
 rw [hc]at h
 simp only [cond_true,Oi]at h;subst h
 exact⟨qW hc,rfl,rfl,by simp,by simp,by simp,by simp only [V.c];rfl⟩
theorem iC:∀ {l m:List V},lY l=some m→keepL (V.cs l)=some (V.cs m)∧m.length=l.length∧allOne (V.cs m)=true
 | [],m,h=>by simp only [lY,Oi]at h;subst h;rw [V.cs];exact⟨rfl,rfl,rfl⟩
 | v :: l,m,h=>by
   simp only [lY]at h
   split at h
   · rename_i a ha
     split at h
     · rename_i b hb
       simp only [Oi]at h;subst h
       obtain⟨h1,h2,h3⟩:=iC hb
       obtain⟨k1,_,_,_,_,_,k7⟩:=V.keep1_c ha
       simp only [V.cs,keepL,k1,h1,allOne,k7,h3,List.length_cons,h2]
       exact⟨trivial,trivial,rfl⟩
     · cases h
   · cases h
def eD (sz:Nat):Nat→List V→List (List V)
 | 0,_=>[]
 | n+1,l=>l.take sz::eD sz n (l.drop sz)
theorem j9 (sz:Nat):∀(n:Nat) (l:List V),V.css (eD sz n l)=chunk sz n (V.cs l)
 | 0,l=>by rw [eD,V.css];rfl
 | n+1,l=>by
   rw [eD,V.css,j9 sz n,chunk]
   simp only [V.cs_map,List.map_take,List.map_drop]
theorem j8 (sz:Nat):∀(n:Nat) (l:List V),(eD sz n l).length=n
 | 0,l=>rfl
 | n+1,l=>by rw [eD,List.length_cons,j8]
def bF (k:IntKind):List V→Option (List Int)
 | []=>some []
 | .int k' n::l=>match bF k l with
   | some m=>if k'=k then some (n::m)else none
   | none=>none
 | _::_=>none
def aO:List V→Option (List Bool)
 | []=>some []
 | .bool n::l=>match aO l with
   | some m=>some (n::m)
   | none=>none
 | _::_=>none
def bE:List V→Option (List (List Nat))
 | []=>some []
 | .str n::l=>match bE l with
   | some m=>some (n::m)
   | none=>none
 | _::_=>none
def selV (l:List V) (i:Int):Option V:=
 match l with
 | .int k _::_=>match bF k l with
   | some m=>some (.int k (m.getD i.toNat 0))
   | none=>none
 | .bool _::_=>match aO l with
   | some m=>some (.bool (m.getD i.toNat false))
   | none=>none
 | .str _::_=>match bE l with
   | some m=>some (.str (m.getD i.toNat []))
   | none=>none
 | _=>none
theorem sH {k:IntKind}:∀ {l:List V}{m:List Int},bF k l=some m→l=m.map (V.int k)
 | [],m,h=>by simp only [bF,Oi]at h;subst h;rfl
 | .int k' n::l,m,h=>by
   simp only [bF]at h
   split at h
   · rename_i m' hm
     split at h
     · rename_i hk
       simp only [Oi]at h;subst h;subst hk
       rw [sH hm];rfl
     · cases h
   · cases h
 | .raw _::_,m,h=>by simp [bF]at h
 | .bool _::_,m,h=>by simp [bF]at h
 | .str _::_,m,h=>by simp [bF]at h
 | .nils::_,m,h=>by simp [bF]at h
 | .ptr _ _::_,m,h=>by simp [bF]at h
 | .sl _ _ _ _::_,m,h=>by simp [bF]at h
 | .agg _::_,m,h=>by simp [bF]at h
 | .tup _::_,m,h=>by simp [bF]at h
 | .fl _ _ _::_,m,h=>by simp [bF]at h
 | .el _::_,m,h=>by simp [bF]at h
 | .gl _::_,m,h=>by simp [bF]at h
 | .lptr _ _::_,m,h=>by simp [bF]at h
 | .eptr _ _ _ _ _::_,m,h=>by simp [bF]at h
theorem pD:∀ {l:List V}{m:List Bool},aO l=some m→l=m.map V.bool
 | [],m,h=>by simp only [aO,Oi]at h;subst h;rfl
 | .bool n::l,m,h=>by
   simp only [aO]at h
   split at h
   · rename_i m' hm
     simp only [Oi]at h;subst h
     rw [pD hm];rfl
   · cases h
 | .raw _::_,m,h=>by simp [aO]at h
 | .int _ _::_,m,h=>by simp [aO]at h
 | .str _::_,m,h=>by simp [aO]at h
 | .nils::_,m,h=>by simp [aO]at h
 | .ptr _ _::_,m,h=>by simp [aO]at h
 | .sl _ _ _ _::_,m,h=>by simp [aO]at h
 | .agg _::_,m,h=>by simp [aO]at h
 | .tup _::_,m,h=>by simp [aO]at h
 | .fl _ _ _::_,m,h=>by simp [aO]at h
 | .el _::_,m,h=>by simp [aO]at h
 | .gl _::_,m,h=>by simp [aO]at h
 | .lptr _ _::_,m,h=>by simp [aO]at h
 | .eptr _ _ _ _ _::_,m,h=>by simp [aO]at h
theorem sG:∀ {l:List V}{m:List (List Nat)},bE l=some m→l=m.map V.str
 | [],m,h=>by simp only [bE,Oi]at h;subst h;rfl
 | .str n::l,m,h=>by
   simp only [bE]at h
   split at h
   · rename_i m' hm
     simp only [Oi]at h;subst h
     rw [sG hm];rfl
   · cases h
 | .raw _::_,m,h=>by simp [bE]at h
 | .int _ _::_,m,h=>by simp [bE]at h
 | .bool _::_,m,h=>by simp [bE]at h
 | .nils::_,m,h=>by simp [bE]at h
 | .ptr _ _::_,m,h=>by simp [bE]at h
 | .sl _ _ _ _::_,m,h=>by simp [bE]at h
 | .agg _::_,m,h=>by simp [bE]at h
 | .tup _::_,m,h=>by simp [bE]at h
 | .fl _ _ _::_,m,h=>by simp [bE]at h
 | .el _::_,m,h=>by simp [bE]at h
 | .gl _::_,m,h=>by simp [bE]at h
 | .lptr _ _::_,m,h=>by simp [bE]at h
 | .eptr _ _ _ _ _::_,m,h=>by simp [bE]at h
theorem ax5 {l:List V}{i:Int}{w:V}(h:selV l i=some w) (hi:i.toNat<l.length):l[i.toNat]? = some w∧w.plain=true:=by
 unfold selV at h
 split at h
 · split at h
   · rename_i m hm
     simp only [Oi]at h;subst h
     have:=sH hm
     rw [this]at hi ⊢
     simp only [List.length_map]at hi
     refine⟨?_,rfl⟩
     rw [List.getElem?_map,List.getElem?_eq_getElem hi,List.getD_eq_getElem?_getD,List.getElem?_eq_getElem hi];rfl
   · cases h
 · split at h
   · rename_i m hm
     simp only [Oi]at h;subst h
     have:=pD hm
     rw [this]at hi ⊢
     simp only [List.length_map]at hi
     refine⟨?_,rfl⟩
     rw [List.getElem?_map,List.getElem?_eq_getElem hi,List.getD_eq_getElem?_getD,List.getElem?_eq_getElem hi];rfl
   · cases h
 · split at h
   · rename_i m hm
     simp only [Oi]at h;subst h
     have:=sG hm
     rw [this]at hi ⊢
     simp only [List.length_map]at hi
     refine⟨?_,rfl⟩
     rw [List.getElem?_map,List.getElem?_eq_getElem hi,List.getD_eq_getElem?_getD,List.getElem?_eq_getElem hi];rfl
   · cases h
 · cases h
def yY (cs:List V) (sz off:Nat):Nat→Nat→Option (List V)
 | 0,_=>some []
 | n + 1,o=>match cs[o+off]? with
   | some v=>match yY cs sz off n (o+sz)with
     | some l=>some (v::l)
     | none=>none
   | none=>none
theorem oL {cs:List V}{sz off:Nat}:∀ {n o:Nat}{l:List V},yY cs sz off n o=some l→l.length=n∧∀i,i<n→l[i]? = cs[o+i*sz+off]?
 | 0,o,l,h=>by simp only [yY,Oi]at h;subst h;exact⟨rfl,fun i hi=>by omega⟩
 | n + 1, o,l,h=>by
   simp only [yY]at h
   split at h
   · rename_i v hv
     split at h
     · rename_i l' hl
       simp only [Oi]at h;subst h
       obtain⟨h1,h2⟩:=oL hl
       refine⟨by simp [h1],fun i hi=>?_⟩
       cases i with
       | zero=>simp [hv]
       | succ i=>
         rw [List.getElem?_cons_succ,h2 i (by omega)]
         congr 1
         rw [Nat.succ_mul];omega
     · cases h
   · cases h
def zS (cs:List V) (sz n o:Nat) (i:Int):Nat→Nat→Option (List V)
 | 0,_=>some []
 | k + 1,off=>match yY cs sz off n o with
   | some l=>match selV l i with
     | some v=>match zS cs sz n o i k (off+1)with
       | some r=>some (v::r)
       | none=>none
     | none=>none
   | none=>none
theorem zR {cs:List V}{sz n o:Nat}{i:Int}(hi:i.toNat<n):∀ {k off:Nat}{r:List V},zS cs sz n o i k off=some r→r=(cs.drop (o+i.toNat*sz+off)).take k∧r.length=k
 | 0,off,r,h=>by simp only [zS,Oi]at h;subst h;simp
 | k + 1, off,r,h=>by
   simp only [zS]at h
   split at h
   · rename_i l hl
     split at h
     · rename_i v hv
       split at h
       · rename_i r' hr
         simp only [Oi]at h;subst h
         obtain⟨h1,h2⟩:=oL hl
         have h3:=(ax5 hv (by rw [h1];exact hi)).1
         rw [h2 _ hi]at h3
         obtain⟨h4,h5⟩:=zR hi hr
         refine⟨?_,by simp [h5]⟩
         obtain⟨h6,h7⟩:=List.getElem?_eq_some_iff.1 h3
         rw [List.drop_eq_getElem_cons h6,List.take_succ_cons,h7,h4]
         rw [show o+i.toNat*sz+off+1=o+i.toNat*sz+(off+1) by omega]
       · cases h
     · cases h
   · cases h
variable {R:Type}{r:R}
theorem aA {c:Bool}{a:Option R}(h:cond c a none=some r):c=true∧a=some r:=by
 cases c with
 | true=>exact⟨rfl,h⟩
 | false=>cases h
theorem pU {c:Bool}{a:Option R}(h:cond c none a=some r):c=false∧a=some r:=by
 cases c with
 | true=>cases h
 | false=>exact⟨rfl,h⟩
def sC (cs:List V) (o n:Nat):Option (List V):=bif Nat.beq ((cs.drop o).take n).length n then some ((cs.drop o).take n)else none
theorem kJ {cs r:List V}{o n:Nat}(h:sC cs o n=some r):takeN (V.cs cs) o n=some (V.cs r):=by
 unfold sC at h
 obtain⟨h1,h2⟩:=aA h
 simp only [Oi]at h2;subst h2
 simp only [Nat.beq_eq]at h1
 have e:V.cs ((cs.drop o).take n)=((V.cs cs).drop o).take n:=by simp only [V.cs_map,List.map_take,List.map_drop]
 unfold takeN
 simp only
 rw [e,if_pos]
 rw [←e,V.cs_length,h1]
def eqV:V→V→Option Bool
 | .int _ a,.int _ b=>some (a==b)
 | .bool a,.bool b=>some (a==b)
 | .str a,.str b=>some (decide (a=b))
 | _,_=>none
def zD:List V→List V→Option Bool
 | [],[]=>some true
 | a :: l,b::m=>match eqV a b with
   | some q=>match zD l m with
     | some s=>some (q&&s)
     | none=>none
   | none=>none
 | _,_=>none
end
end Go.Ev
namespace Go.Ev
open Go.RowKit
noncomputable section
def yB (P:Program) (t:TypeId):Option Nat:=match P.underlying t with
 | some (.int _)=>some 0
 | some .bool=>some 1
 | some .string=>some 2
 | _=>none
def kindV:Nat→V→Bool
 | 0,.int k _=>decide (k=.i64)
 | 1,.bool _=>true
 | 2,.str _=>true
 | _,_=>false
def dI:List Nat→List V→Bool
 | [],[]=>true
 | k::ks,v::vs=>bif kindV k v then dI ks vs else false
 | _,_=>false
theorem yI {P:Program}{t:TypeId}{k:Nat}(hk:yB P t=some k) {a b:V}(ha:kindV k a=true) (hb:kindV k b=true):∃q,eqV a b=some q∧eS P t a.c b.c=some q:=by
 unfold yB at hk
 split at hk
 · rename_i kk hu
   cases hk
   cases a<;>first|(simp [kindV]at ha;done)|skip
   cases b<;>first|(simp [kindV]at hb;done)|skip
   rename_i k1 n1 k2 n2
   simp only [kindV,decide_eq_true_eq]at ha hb
   subst ha hb
   exact⟨n1==n2,rfl,by simp only [eS,hu,V.c,aq4,if_true]⟩
 · rename_i hu
   cases hk
   cases a<;>first|(simp [kindV]at ha;done)|skip
   cases b<;>first|(simp [kindV]at hb;done)|skip
   rename_i n1 n2
   exact⟨n1==n2,rfl,by simp only [eS,hu,V.c,kR]⟩
 · rename_i hu
   cases hk
   cases a<;>first|(simp [kindV]at ha;done)|skip
   cases b<;>first|(simp [kindV]at hb;done)|skip
   rename_i n1 n2
   exact⟨decide (n1=n2),rfl,by simp only [eS,hu,V.c,aq1]⟩
 · cases hk
theorem iG {P:Program}{e:TypeId}{k:Nat}(hk:yB P e=some k):∀ {n:Nat}{xs ys:List V}{ks:List Nat},dI (List.replicate n k++ks) xs=true→dI (List.replicate n k++ks) ys=true →
  ∃q,zD (xs.take n) (ys.take n)=some q∧cL P e (V.cs (xs.take n)) (V.cs (ys.take n))=some q∧(xs.take n).length=n∧(ys.take n).length=n∧dI ks (xs.drop n)=true∧dI ks (ys.drop n)=true
 | 0,xs,ys,ks,hx,hy=>⟨true,by simp only [List.take_zero];rfl,by simp only [List.take_zero,V.cs];rfl,rfl,rfl,hx,hy⟩
 | n + 1, xs,ys,ks,hx,hy=>by
   cases xs with
   | nil=>cases hx
   | cons a xs=>
     cases ys with
     | nil=>cases hy
     | cons b ys=>
       simp only [List.replicate_succ,List.cons_append,dI]at hx hy
       obtain⟨ha,hx⟩:kindV k a=true∧dI (List.replicate n k++ks) xs=true:=by cases h:kindV k a<;>rw [h]at hx<;>first|cases hx|exact⟨rfl,hx⟩
       obtain⟨hb,hy⟩:kindV k b=true∧dI (List.replicate n k++ks) ys=true:=by cases h:kindV k b<;>rw [h]at hy<;>first|cases hy|exact⟨rfl,hy⟩
       obtain⟨q1,h1,h2⟩:=yI hk ha hb
       obtain⟨q2,h3,h4,h5,h6,h7,h8⟩:=iG hk hx hy
       refine⟨q1&&q2,?_,?_,by simp [h5],by simp [h6],h7,h8⟩
       · simp only [List.take_succ_cons,zD,h1,h3]
       · simp only [List.take_succ_cons,V.cs,cL,h2]
         cases q1
         · rfl
         · simp only [h4,Bool.true_and]
def pK (P : Program):List Field→Nat→Option (List Nat)
 | [],_=>some []
 | f :: fs, o => bif Nat.beq f.offset o&&!decide (f.name = "_")then
   match aggT P f.type with
   | some true=>match P.underlying f.type with
     | some (.array n e)=>match aG P f.type with
       | some s=>bif Nat.beq s n then match aG P e with
         | some 1=>match yB P e with
           | some k=>match pK P fs (o+n)with
             | some ks=>some (List.replicate n k++ks)
             | none=>none
           | none=>none
         | _=>none
         else none
       | none=>none
     | _=>none
   | some false=>match yB P f.type with
     | some k=>match pK P fs (o+1)with
       | some ks=>some (k::ks)
       | none=>none
     | none=>none
   | none=>none
   else none
theorem n7 {a b c d:List V}{p q:Bool}(h1:zD a c=some p) (h2:zD b d=some q):zD (a++b) (c++d)=some (p&&q):=by
 induction a generalizing c p with
 | nil=>
   cases c with
   | nil=>simp only [zD,Oi]at h1;subst h1;simpa using h2
   | cons _ _=>cases h1
 | cons x a ih=>
   cases c with
   | nil=>cases h1
   | cons y c=>
     simp only [zD]at h1
     split at h1
     · rename_i q1 hq1
       split at h1
       · rename_i s hs
         cases h1
         simp only [List.cons_append,zD,hq1,ih hs,Bool.and_assoc]
       · cases h1
     · cases h1
theorem iZ {P : Program}:∀ {fs:List Field}{o:Nat}{ks:List Nat},pK P fs o=some ks→∀ {xs ys:List V},dI ks (xs.drop o)=true→dI ks (ys.drop o)=true →
  ∃q,zD (xs.drop o) (ys.drop o)=some q∧bV P fs (V.cs xs) (V.cs ys)=some q
 | [], o,ks,h,xs,ys,hx,hy=>by
   simp only [pK,Oi]at h;subst h
   refine⟨true,?_,rfl⟩
   cases hx':xs.drop o with
   | nil=>
     cases hy':ys.drop o with
     | nil=>rfl
     | cons _ _=>rw [hy']at hy;cases hy
   | cons _ _=>rw [hx']at hx;cases hx
 | f :: fs, o, ks, h,xs,ys,hx,hy=>by
   simp only [pK]at h
   obtain⟨hc,h⟩:=aA h
   simp only [Bool.and_eq_true,Nat.beq_eq,Bool.not_eq_true',decide_eq_false_iff_not]at hc
   obtain⟨ho,hnm⟩:=hc
   split at h
   · rename_i hagg
     split at h
     · rename_i n e hu
       split at h
       · rename_i s hs
         obtain⟨hsn,h⟩:=aA h
         simp only [Nat.beq_eq]at hsn
         split at h
         · rename_i he1
           split at h
           · rename_i k hk
             split at h
             · rename_i ks' hks
               cases h
               obtain⟨q1,h1,h2,h3,h4,h5,h6⟩:=iG hk hx hy
               rw [List.drop_drop]at h5 h6
               obtain⟨q2,h7,h8⟩:=iZ hks h5 h6
               refine⟨q1&&q2,?_,?_⟩
               · have e1:=n7 h1 h7
                 rw [←List.drop_drop,←List.drop_drop,List.take_append_drop,List.take_append_drop]at e1
                 exact e1
               · have tx:takeN (V.cs xs) o n=some (V.cs ((xs.drop o).take n)):=kJ (by unfold sC;rw [h3,Nat.beq_refl];rfl)
                 have ty:takeN (V.cs ys) o n=some (V.cs ((ys.drop o).take n)):=kJ (by unfold sC;rw [h4,Nat.beq_refl];rfl)
                 simp only [bV,if_neg hnm,n8,hagg,ho,aq5,hu,hs,hsn,if_true,he1,tx,ty,h2]
                 cases q1
                 · rfl
                 · simp only [h8,Bool.true_and]
             · cases h
           · cases h
         · cases h
       · cases h
     · cases h
   · rename_i hagg
     split at h
     · rename_i k hk
       split at h
       · rename_i ks' hks
         cases h
         obtain⟨q1,h1,h2,h3,h4,h5,h6⟩:=iG (n:=1) hk (show dI (List.replicate 1 k++ks') (xs.drop o)=true from hx) (show dI (List.replicate 1 k++ks') (ys.drop o)=true from hy)
         rw [List.drop_drop]at h5 h6
         obtain⟨q2,h7,h8⟩:=iZ hks h5 h6
         refine⟨q1&&q2,?_,?_⟩
         · have e1:=n7 h1 h7
           rw [←List.drop_drop,←List.drop_drop,List.take_append_drop,List.take_append_drop]at e1
           exact e1
         · obtain ⟨a,ha⟩:∃a,xs[o]? = some a:=by
            cases hq:xs.drop o with
            | nil=>rw [hq]at h3;cases h3
            | cons a l=>exact⟨a,by rw [←List.head?_drop,hq];rfl⟩
           obtain⟨b,hb⟩:∃b,ys[o]? = some b:=by
            cases hq:ys.drop o with
            | nil=>rw [hq]at h4;cases h4
            | cons a l=>exact⟨a,by rw [←List.head?_drop,hq];rfl⟩
           have tx:(xs.drop o).take 1=[a]:=by rw [List.drop_eq_getElem_cons (List.getElem?_eq_some_iff.1 ha).1];simp [(List.getElem?_eq_some_iff.1 ha).2]
           have ty:(ys.drop o).take 1=[b]:=by rw [List.drop_eq_getElem_cons (List.getElem?_eq_some_iff.1 hb).1];simp [(List.getElem?_eq_some_iff.1 hb).2]
           rw [tx,ty]at h2
           simp only [V.cs,cL]at h2
           have h9:eS P f.type a.c b.c=some q1:=by
            cases hq:eS P f.type a.c b.c with
            | none=>rw [hq]at h2;cases h2
            | some z=>rw [hq]at h2;cases z<;>simp_all
           simp only [bV,if_neg hnm,n8,hagg,ho,V.cs_get,ha,hb,Option.map_some,h9]
           cases q1
           · rfl
           · simp only [h8,Bool.true_and]
       · cases h
     · cases h
   · cases h
def wR (P:Program) (t:TypeId):Option (List Nat):=match P.eqGuardType P.depth t with
 | true=>none
 | false=>match P.underlying t with
   | some (.struct fs)=>match P.stoodInHeld t with
     | true=>none
     | false=>pK P fs.toList 0
   | some (.array n e)=>match aG P e with
     | some 1=>match yB P e with
       | some k=>some (List.replicate n k)
       | none=>none
     | _=>none
   | _=>none
theorem ajj {P:Program}{t:TypeId}{ks:List Nat}(h:wR P t=some ks) {xs ys:List V}(hx:dI ks xs=true) (hy:dI ks ys=true) {q:Bool}(hq:zD xs ys=some q):eqX P t (.agg (V.cs xs)) (.agg (V.cs ys))=some q:=by
 unfold wR at h
 split at h
 · cases h
 · rename_i hg
   split at h
   · rename_i fs hu
     split at h
     · cases h
     · rename_i hh
       obtain⟨q',h1,h2⟩:=iZ h (xs:=xs) (ys:=ys) hx hy
       rw [List.drop_zero,List.drop_zero,hq]at h1
       cases h1
       simp only [eqX,hu,aq6,hg,hh,h2]
   · rename_i n e hu
     split at h
     · rename_i hs
       split at h
       · rename_i k hk
         cases h
         obtain⟨q',h1,h2,h3,h4,h5,h6⟩:=iG (n:=n) (ks:=[]) hk (by simpa using hx) (by simpa using hy)
         have lx:xs.take n=xs:=by
          have:xs.drop n=[]:=by cases hd:xs.drop n with
           | nil=>rfl
           | cons _ _=>rw [hd]at h5;cases h5
          conv=>rhs;rw [←List.take_append_drop n xs,this,List.append_nil]
         have ly:ys.take n=ys:=by
          have:ys.drop n=[]:=by cases hd:ys.drop n with
           | nil=>rfl
           | cons _ _=>rw [hd]at h6;cases h6
          conv=>rhs;rw [←List.take_append_drop n ys,this,List.append_nil]
         rw [lx]at h1 h2 h3
         rw [ly]at h1 h2 h4
         rw [hq]at h1
         cases h1
         simp only [eqX,hu,aq6,hg,hs]
         rw [if_pos ⟨by rw [V.cs_length];exact h3,by rw [V.cs_length];exact h4⟩]
         exact h2
       · cases h
     · cases h
   · cases h
end
end Go.Ev
namespace Go.Ev
open Go.RowKit
noncomputable section
variable {R:Type}{r:R}
def dInt (op:BinOp) (k:IntKind) (a b:Int) (kk:V→Option R):Option R:=
 match op with
 | .add=>kk (.int k (k.wrap (a+b)))
 | .sub=>kk (.int k (k.wrap (a-b)))
 | .mul=>kk (.int k (k.wrap (a*b)))
 | .quo=>cond (decide (b=0)) none (kk (.int k (k.wrap (a.tdiv b))))
 | .rem=>cond (decide (b=0)) none (kk (.int k (a.tmod b)))
 | .eql=>kk (.bool (a==b))
 | .neq=>kk (.bool (!(a==b)))
 | .lss=>kk (.bool (decide (a<b)))
 | .leq=>kk (.bool (decide (a≤b)))
 | .gtr=>kk (.bool (decide (b<a)))
 | .geq=>kk (.bool (decide (b≤a)))
 | _=>none
theorem dInt_ok {op:BinOp}{k:IntKind}{a b:Int}{kk:V→Option R}(h:dInt op k a b kk=some r):∃w:V,eInt2 op k k a b=some w.c∧w.safe=true∧kk w=some r:=by
 unfold dInt at h
 split at h
 all_goals first
  | (refine⟨_,?_,rfl,h⟩;simp only [eInt2,eInt,if_true,V.c];done)
  | (obtain⟨h1,h2⟩:=pU h;refine⟨_,?_,rfl,h2⟩;simp only [decide_eq_false_iff_not]at h1;simp only [eInt2,eInt,if_true,V.c,if_neg h1];done)
  | (refine⟨_,?_,rfl,h⟩;simp only [eInt2,eInt,if_true,V.c];rfl)
  | cases h
def dStr (op:BinOp) (a b:List Nat) (kk:V→Option R):Option R:=
 match op with
 | .add=>cond (decide (a.length+b.length<1000000000)) (kk (.str (a++b))) none
 | .eql=>kk (.bool (decide (a=b)))
 | .neq=>kk (.bool (!decide (a=b)))
 | .lss=>kk (.bool (lessL a b))
 | .leq=>kk (.bool (lessL a b||decide (a=b)))
 | .gtr=>kk (.bool (!(lessL a b||decide (a=b))))
 | .geq=>kk (.bool (!lessL a b))
 | _=>none
theorem dStr_ok {op:BinOp}{a b:List Nat}{kk:V→Option R}(h:dStr op a b kk=some r):∃w:V,eStr op a b=some w.c∧w.safe=true∧kk w=some r:=by
 unfold dStr at h
 split at h
 all_goals first
  | (refine⟨_,?_,rfl,h⟩;simp only [eStr,V.c];done)
  | (obtain⟨h1,h2⟩:=aA h;refine⟨_,?_,rfl,h2⟩;simp only [decide_eq_true_eq]at h1;simp only [eStr,if_true,V.c,if_pos h1];done)
  | cases h
def dEqX (P:Program) (t:TypeId) (a b:V):Option Bool:=
 match P.underlying t with
 | some .bool=>match a,b with
   | .bool x,.bool y=>some (x==y)
   | _,_=>none
 | some (.pointer e)=>bif(aG P e).isSome then
   match a,b with
   | .raw .nilp,.ptr _ _=>some false
   | .ptr _ _,.raw .nilp=>some false
   | .raw .nilp,.raw .nilp=>some true
   | _,_=>none
   else none
 | some (.slice _)=>match a,b with
   | .nils,.nils=>some true
   | .sl _ _ _ _,.nils=>some false
   | .nils,.sl _ _ _ _=>some false
   | .el (_::_),.nils=>some false
   | _,_=>none
 | some (.func _ _ _)=>match a,b with
   | .raw .nilfunc,.raw .nilfunc=>some true
   | .raw (.func _ _),.raw .nilfunc=>some false
   | .raw .nilfunc,.raw (.func _ _)=>some false
   | _,_=>none
 | _=>none
theorem dEqX_ok {P:Program}{t:TypeId}{a b:V}{q:Bool}(h:dEqX P t a b=some q):eqX P t a.c b.c=some q∧a.plain=true∧b.plain=true∧(∀k n,a≠.int k n)∧(∀l,a≠.str l):=by
 unfold dEqX at h
 split at h
 · rename_i hu
   split at h
   · simp only [Oi]at h;subst h
     refine⟨by simp only [eqX,hu,V.c,kR],rfl,rfl,by simp,by simp⟩
   · cases h
 · rename_i e hu
   cases hs:(aG P e).isSome with
   | false=>rw [hs]at h;cases h
   | true=>
     rw [hs]at h
     simp only [cond_true]at h
     split at h<;>first|(simp only [Oi]at h;subst h;refine⟨by simp only [eqX,hu,V.c,hs,if_true,eqNil],rfl,rfl,by simp,by simp⟩)|cases h
 · rename_i e hu
   split at h<;>first|(simp only [Oi]at h;subst h;refine⟨by simp only [eqX,hu,V.c,V.css,aq2],rfl,rfl,by simp,by simp⟩)|cases h
 · rename_i hu
   split at h<;>first|(simp only [Oi]at h;subst h;refine⟨by simp only [eqX,hu,V.c,aq3],rfl,rfl,by simp,by simp⟩)|cases h
 · cases h
def EqT (P:Program) (T:TypeId→Option (List Nat)):Prop:=∀t ks,T t=some ks→wR P t=some ks
def dBin (P:Program) (T:TypeId→Option (List Nat)) (op:BinOp) (t:TypeId) (x y:V) (kk:V→Option R):Option R:=
 match x with
 | .int k a=>match y with
   | .int k' b=>bif decide (k=k')then dInt op k a b kk else none
   | _=>none
 | .str a=>match y with
   | .str b=>dStr op a b kk
   | _=>none
 | .agg xs=>match y with
   | .agg ys=>match T t with
     | some ks=>bif dI ks xs&&dI ks ys then match zD xs ys with
       | some q=>match op with
         | .eql=>kk (.bool q)
         | .neq=>kk (.bool (!q))
         | _=>none
       | none=>none
       else none
     | none=>none
   | _=>none
 | x => match dEqX P t x y with
   | some q=>match op with
     | .eql=>kk (.bool q)
     | .neq=>kk (.bool (!q))
     | _=>none
   | none=>none
theorem iI {P:Program}{op:BinOp}{t:TypeId}{x y:EVal}(h1:∀k n,x≠.int k n) (h2:∀l,x≠.str l):eBin P op t x y=n9 P op t x y:=by
 unfold eBin
 split
 · rename_i k n;exact absurd rfl (h1 k n)
 · rename_i l;exact absurd rfl (h2 l)
 · rfl
theorem yR {P:Program}{t:TypeId}{a b:V}{q:Bool}(h:dEqX P t a b=some q):(∀k n,a.c≠.int k n)∧(∀l,a.c≠.str l):=by
 unfold dEqX at h
 split at h
 · split at h
   · exact⟨by simp [V.c],by simp [V.c]⟩
   · cases h
 · rename_i e _
   cases hs:(aG P e).isSome with
   | false=>rw [hs]at h;cases h
   | true=>
     rw [hs]at h
     simp only [cond_true]at h
     split at h<;>first|(cases h;done)|exact⟨by simp [V.c],by simp [V.c]⟩
 · split at h<;>first|(cases h;done)|exact⟨by simp [V.c],by simp [V.c]⟩
 · split at h<;>first|(cases h;done)|exact⟨by simp [V.c],by simp [V.c]⟩
 · cases h
theorem dBin_ok {P:Program}{T:TypeId→Option (List Nat)}(hT:EqT P T) {op:BinOp}{t:TypeId}{x y:V}{kk:V→Option R}(h:dBin P T op t x y kk=some r) :
  ∃w:V,eBin P op t x.c y.c=some w.c∧w.safe=true∧x.plain=true∧y.plain=true∧kk w=some r:=by
 unfold dBin at h
 split at h
 · split at h
   · obtain ⟨hk,h'⟩:=aA h
     have hk:=of_decide_eq_true hk
     subst hk
     obtain⟨w,h1,h2,h3⟩:=dInt_ok h'
     exact⟨w,by simp only [V.c,eBin];exact h1,h2,rfl,rfl,h3⟩
   · cases h
 · split at h
   · obtain ⟨w,h1,h2,h3⟩:=dStr_ok h
     exact⟨w,by simp only [V.c,eBin];exact h1,h2,rfl,rfl,h3⟩
   · cases h
 · split at h
   · split at h
     rotate_left
     · cases h
     rename_i ks hks
     obtain⟨ht,h⟩:=aA h
     simp only [Bool.and_eq_true]at ht
     split at h
     · rename_i q hq
       have e:=ajj (hT t ks hks) ht.1 ht.2 hq
       split at h
       · exact⟨_,by simp only [V.c];rw [iI (by simp) (by simp),n9,e];rfl,rfl,rfl,rfl,h⟩
       · exact⟨_,by simp only [V.c];rw [iI (by simp) (by simp),n9,e];rfl,rfl,rfl,rfl,h⟩
       · cases h
     · cases h
   · cases h
 · split at h
   · rename_i q hq
     obtain⟨e,h1,h2,_,_⟩:=dEqX_ok hq
     obtain⟨s1,s2⟩:=yR hq
     split at h
     · exact⟨_,by rw [iI s1 s2,n9,e];simp only [V.c];rfl,rfl,h1,h2,h⟩
     · exact⟨_,by rw [iI s1 s2,n9,e];simp only [V.c];rfl,rfl,h1,h2,h⟩
     · cases h
   · cases h
def axh (gD:Nat→Option (List V)) (d:D):V→Option (List V×Nat)
 | .ptr id o=>match d.row id with
   | some r=>some (r.cells,o)
   | none=>none
 | .lptr cs o=>some (cs,o)
 | .raw (.gptr b o)=>match gD b with
   | some cs=>some (cs,o)
   | none=>none
 | _=>none
def GD (g:G) (gD:Nat→Option (List V)):Prop:=∀b cs,gD b=some cs→g b=some (V.cs cs)
theorem aqf {g:G}{gD:Nat→Option (List V)}(hg:GD g gD) {d:D}{a:V}{cs:List V}{o:Nat}(h:axh gD d a=some (cs,o)) :
  row? g d.H a.c=some (V.cs cs,o)∧a.plain=true∧(∀k e,eShift k a.c=some e→row? g d.H e=some (V.cs cs,o+k))∧∃e:Nat→EVal,∀k,eShift k a.c=some (e k):=by
 cases a with
 | ptr id o'=>
   simp only [axh]at h
   split at h
   · rename_i r hr
     simp only [Oi,Prod.mk.injEq]at h
     obtain⟨rfl,rfl⟩:=h
     have hg:=D.row_get hr
     simp only [V.c]
     refine⟨by simp only [row?,hg,DRow.o],rfl,fun k e he=>?_,fun k=>.ptr id (o'+k),fun k=>rfl⟩
     simp only [eShift,Oi]at he;subst he
     simp only [row?,hg,DRow.o]
   · cases h
 | lptr cs' o'=>
   simp only [axh,Oi,Prod.mk.injEq]at h
   obtain⟨rfl,rfl⟩:=h
   simp only [V.c]
   refine⟨by simp only [row?],rfl,fun k e he=>?_,fun k=>.lptr (V.cs cs') (o'+k),fun k=>rfl⟩
   simp only [eShift,Oi]at he;subst he
   simp only [row?]
 | raw e=>
   cases e with
   | gptr b o'=>
     simp only [axh]at h
     split at h
     · rename_i cs' hb
       simp only [Oi,Prod.mk.injEq]at h
       obtain⟨rfl,rfl⟩:=h
       have hb':=hg _ _ hb
       simp only [V.c]
       refine⟨by simp only [row?,hb'],rfl,fun k e he=>?_,fun k=>.gptr b (o'+k),fun k=>rfl⟩
       simp only [eShift,Oi]at he;subst he
       simp only [row?,hb']
     · cases h
   | _=>simp [axh]at h
 | _=>simp [axh]at h
def ajp (P:Program) (gD:Nat→Option (List V)) (d:D) (t:TypeId) (a:V):Option V:=
 match a with
 | .eptr s sz n i off=>match axh gD d s with
   | some (cs,o)=>match aggT P t with
     | some true=>match P.info? t with
       | some inf=>match zS cs sz n o i inf.size off with
         | some r=>some (.agg r)
         | none=>none
       | none=>none
     | some false=>match yY cs sz off n o with
       | some l=>bif Nat.beq l.length n then selV l i else none
       | none=>none
     | none=>none
   | none=>none
 | a => match axh gD d a with
   | some (cs,o)=>match aggT P t with
     | some true=>match P.info? t with
       | some inf=>match sC cs o inf.size with
         | some r=>some (.agg r)
         | none=>none
       | none=>none
     | some false=>cs[o]?
     | none=>none
   | none=>none
theorem w8 {P:Program} {g:G}{gD:Nat→Option (List V)}(hg:GD g gD) {d:D}{t:TypeId}{a w:V}(ha:a.inr) (h:ajp P gD d t a=some w) :
  eLoad P g d.H t a.c=some w.c∧a.plain=true:=by
 unfold ajp at h
 split at h
 · rename_i s sz n i off
   split at h
   · rename_i cs o hr
     obtain⟨_,_,h3,e,h4⟩:=aqf hg hr
     have h5:row? g d.H (V.eptr s sz n i off).c=some (V.cs cs,o+(i.toNat*sz+off)):=by
      rw [V.c,h4,Option.getD_some];exact h3 _ _ (h4 _)
     refine⟨?_,rfl⟩
     unfold eLoad
     rw [h5]
     simp only
     split at h
     · rename_i hagg
       split at h
       · rename_i inf hinf
         split at h
         · rename_i r hr2
           simp only [Oi]at h;subst h
           obtain⟨e1,e2⟩:=zR (show i.toNat<n from ha) hr2
           have ec:V.cs r=((V.cs cs).drop (o+i.toNat*sz+off)).take inf.size:=by rw [e1];simp only [V.cs_map,List.map_take,List.map_drop]
           have el:(((V.cs cs).drop (o+i.toNat*sz+off)).take inf.size).length=inf.size:=by rw [←ec,V.cs_length,e2]
           rw [hagg]
           simp only [eLoad',hinf,takeN,←Nat.add_assoc]
           rw [if_pos el]
           simp only [V.c,ec]
         · cases h
       · cases h
     · rename_i hagg
       split at h
       · rename_i l hl
         obtain⟨hb,h⟩:=aA h
         obtain⟨h6,h7⟩:=oL hl
         have h8:=(ax5 h (by rw [h6];exact ha)).1
         rw [h7 _ ha]at h8
         rw [hagg]
         simp only [eLoad',V.cs_get,←Nat.add_assoc,h8,Option.map_some]
       · cases h
     · cases h
   · cases h
 · split at h
   · rename_i cs o hr
     obtain⟨h1,h2,_,_⟩:=aqf hg hr
     refine⟨?_,h2⟩
     unfold eLoad
     rw [h1]
     simp only
     split at h
     · rename_i hagg
       split at h
       · rename_i inf hinf
         split at h
         · rename_i r hr2
           simp only [Oi]at h;subst h
           rw [hagg]
           simp only [eLoad',hinf,kJ hr2,V.c]
         · cases h
       · cases h
     · rename_i hagg
       rw [hagg]
       simp only [eLoad',V.cs_get,h,Option.map_some]
     · cases h
   · cases h
end
end Go.Ev
namespace Go.Ev
open Go.RowKit
noncomputable section
variable {R:Type}{r:R}
def oB (i:Int) (kk:Nat→Option R):Nat→Nat→Option R
 | 0,_=>none
 | n+1,j=>cond (i==(j:Int)) (kk j) (oB i kk n (j+1))
theorem gX {i:Int}{kk:Nat→Option R}:∀ {n j:Nat},oB i kk n j=some r→∃q:Nat,j≤q∧q<j+n∧i=(q:Int)∧kk q=some r
 | 0,j,h=>by cases h
 | n + 1,j,h=>by
   simp only [oB]at h
   cases hc:(i==(j:Int))with
   | true=>
     rw [hc]at h
     exact⟨j,Nat.le_refl _,by omega,by simpa using hc,h⟩
   | false=>
     rw [hc]at h
     obtain⟨q,h1,h2,h3,h4⟩:=gX h
     exact⟨q,by omega,by omega,h3,h4⟩
def inR (i:Int) (n:Nat):Bool:=decide (0≤i)&&decide (i<(n:Int))
theorem aqT {i:Int}{n:Nat}(h:inR i n=true):0≤i∧i<(n:Int)∧i.toNat<n:=by
 simp only [inR,Bool.and_eq_true,decide_eq_true_eq]at h
 omega
def fH (k:Nat):V→Option V
 | .ptr id o=>some (.ptr id (o+k))
 | .lptr cs o=>some (.lptr cs (o+k))
 | .raw (.gptr b o)=>some (.raw (.gptr b (o+k)))
 | .eptr s sz n i off=>match s with
   | .ptr _ _=>some (.eptr s sz n i (off+k))
   | .lptr _ _=>some (.eptr s sz n i (off+k))
   | .raw (.gptr _ _)=>some (.eptr s sz n i (off+k))
   | _=>none
 | _=>none
theorem tI {k:Nat}{a w:V}(h:fH k a=some w):eShift k a.c=some w.c∧a.plain=true∧w.plain=true∧(a.inr→w.inr):=by
 cases a with
 | ptr id o=>simp only [fH,Oi]at h;subst h;exact⟨by simp only [V.c,eShift],rfl,rfl,fun _=>trivial⟩
 | lptr cs o=>simp only [fH,Oi]at h;subst h;exact⟨by simp only [V.c,eShift],rfl,rfl,fun _=>trivial⟩
 | raw e=>
   cases e with
   | gptr b o=>simp only [fH,Oi]at h;subst h;exact⟨by simp only [V.c,eShift],rfl,rfl,fun _=>trivial⟩
   | _=>simp [fH]at h
 | eptr s sz n i off=>
   cases s with
   | ptr id o=>simp only [fH,Oi]at h;subst h;exact⟨by simp only [V.c,eShift,Option.getD_some,Nat.add_assoc],rfl,rfl,fun h=>h⟩
   | lptr cs o=>simp only [fH,Oi]at h;subst h;exact⟨by simp only [V.c,eShift,Option.getD_some,Nat.add_assoc],rfl,rfl,fun h=>h⟩
   | raw e=>
     cases e with
     | gptr b o=>simp only [fH,Oi]at h;subst h;exact⟨by simp only [V.c,eShift,Option.getD_some,Nat.add_assoc],rfl,rfl,fun h=>h⟩
     | _=>simp [fH]at h
   | _=>simp [fH]at h
 | _=>simp [fH]at h
def kY (P:Program) (s:TypeId) (f:Nat) (x:V):Option V:=
 match P.underlying s with
 | some (.struct fs)=>match fs[f]? with
   | some fd=>match aG P fd.type with
     | some sz=>bif Nat.beq sz 0 then none else fH fd.offset x
     | none=>none
   | none=>none
 | _=>none
theorem rE {P:Program}{s:TypeId}{f:Nat}{x w:V}(h:kY P s f x=some w):eFieldAddr P s x.c f=some w.c∧x.plain=true∧w.plain=true∧(x.inr→w.inr):=by
 unfold kY at h
 split at h
 · rename_i fs hu
   split at h
   · rename_i fd hf
     split at h
     · rename_i sz hs
       obtain⟨h0,h⟩:=pU h
       obtain⟨h1,h2,h3,h4⟩:=tI h
       refine⟨?_,h2,h3,h4⟩
       simp only [eFieldAddr,hu,hf,hs]
       rw [if_neg]
       · exact h1
       · intro e;subst e;cases h0
     · cases h
   · cases h
 · cases h
def ajn (P:Program) (t:TypeId) (cs:List V) (o:Nat):Option V:=
 match aggT P t with
 | some true=>match P.info? t with
   | some inf=>match sC cs o inf.size with
     | some r=>some (.agg r)
     | none=>none
   | none=>none
 | some false=>cs[o]?
 | none=>none
theorem w7 {P:Program}{t:TypeId}{cs:List V}{o:Nat}{w:V}(h:ajn P t cs o=some w):ePart P t (V.cs cs) o=some w.c:=by
 unfold ajn at h
 unfold ePart
 split at h
 · rename_i hagg
   split at h
   · rename_i inf hinf
     split at h
     · rename_i r hr2
       simp only [Oi]at h;subst h
       rw [hagg]
       simp only [eLoad',hinf,kJ hr2,V.c]
     · cases h
   · cases h
 · rename_i hagg
   rw [hagg]
   simp only [eLoad',V.cs_get,h,Option.map_some]
 · cases h
def aqo (P:Program) (s:TypeId) (f:Nat) (x:V):Option V:=
 match x with
 | .agg cs=>match P.underlying s with
   | some (.struct fs)=>match fs[f]? with
     | some fd=>ajn P fd.type cs fd.offset
     | none=>none
   | _=>none
 | _=>none
theorem aqn {P:Program}{s:TypeId}{f:Nat}{x w:V}(h:aqo P s f x=some w):eField P s x.c f=some w.c∧x.plain=true:=by
 unfold aqo at h
 split at h
 · split at h
   · rename_i fs hu
     split at h
     · rename_i fd hf
       refine⟨?_,rfl⟩
       simp only [V.c,eField,hu,hf,w7 h]
     · cases h
   · cases h
 · cases h
def iL (P : Program) (lz:Bool) (t:TypeId) (x ix:V) (kk:V→Option R):Option R:=
 match ix with
 | .int _ i=>match P.underlying t with
   | some (.array n e)=>match aG P e with
     | some sz=>match lz with
       | true=>match x with
         | .ptr a b=>cond (inR i n) (kk (.eptr (.ptr a b) sz n i 0)) none
         | .lptr a b=>cond (inR i n) (kk (.eptr (.lptr a b) sz n i 0)) none
         | .raw (.gptr a b)=>cond (inR i n) (kk (.eptr (.raw (.gptr a b)) sz n i 0)) none
         | _=>none
       | false=>oB i (fun j=>match fH (j*sz) x with
         | some w=>kk w
         | none=>none) n 0
     | none=>none
   | some (.slice e)=>match aG P e with
     | some sz=>match x with
       | .sl id o len _=>oB i (fun j=>kk (.ptr id (o+j*sz))) len 0
       | .fl w n f=>cond (inR i n) (bif Nat.beq (f i.toNat).length sz&&okW w (f i.toNat)then kk (.lptr (f i.toNat) 0)else none) none
       | .el els=>oB i (fun j=>match els[j]? with
         | some c=>bif Nat.beq c.length sz then kk (.lptr c 0)else none
         | none=>none) els.length 0
       | _=>none
     | none=>none
   | _=>none
 | _=>none
theorem sN {α:Type}{f:Nat→α}{n i:Nat}(h:i<n):((List.range n).map f)[i]? = some (f i):=by
 rw [List.getElem?_map,List.getElem?_range h];rfl
theorem rC {P:Program} {lz:Bool}{t:TypeId}{x ix:V}{kk:V→Option R}(hi0:x.inr) (h:iL P lz t x ix kk=some r) :
  ∃w:V,eIndexAddr P t x.c ix.c=some w.c∧x.plain=true∧ix.plain=true∧w.plain=true∧w.inr∧kk w=some r:=by
 cases ix with
 | int k i =>
   simp only [iL]at h
   split at h
   · rename_i n e hu
     split at h
     · rename_i sz hs
       cases lz with
       | true=>
         simp only at h
         have key:∀s:V,(∀k,∃e,eShift k s.c=some e)→s.plain=true→cond (inR i n) (kk (.eptr s sz n i 0)) none=some r→∃w:V,eIndexAddr P t s.c (V.int k i).c=some w.c∧s.plain=true∧(V.int k i).plain=true∧w.plain=true∧w.inr∧kk w=some r:=by
          intro s hsh hp h
          obtain⟨h1,h2⟩:=aA h
          obtain⟨q1,q2,q3⟩:=aqT h1
          refine⟨.eptr s sz n i 0,?_,hp,rfl,rfl,q3,h2⟩
          obtain⟨e',he⟩:=hsh (i.toNat*sz)
          simp only [V.c,eIndexAddr,hu,eIndexAddr',hs]
          rw [if_pos ⟨q1,q2⟩,Nat.add_zero,he,Option.getD_some]
         split at h
         · exact key _ (fun k=>⟨_,by simp only [V.c];rfl⟩) rfl h
         · exact key _ (fun k=>⟨_,by simp only [V.c];rfl⟩) rfl h
         · exact key _ (fun k=>⟨_,by simp only [V.c];rfl⟩) rfl h
         · cases h
       | false=>
         simp only at h
         obtain⟨q,_,q2,hq,hk⟩:=gX h
         subst hq
         clear h
         have h:=hk
         clear hk
         try simp only at h
         split at h
         · rename_i w hw
           obtain⟨h1,h2,h3,h4⟩:=tI hw
           refine⟨w,?_,h2,rfl,h3,h4 hi0,h⟩
           simp only [V.c,eIndexAddr,hu,eIndexAddr',hs]
           rw [if_pos ⟨Int.natCast_nonneg _,by omega⟩,Int.toNat_natCast]
           exact h1
         · cases h
     · cases h
   · rename_i e hu
     split at h
     · rename_i sz hs
       split at h
       · rename_i id o len cap
         obtain⟨q,_,q2,hq,hk⟩:=gX h
         subst hq
         clear h
         have h:=hk
         clear hk
         try simp only at h
         refine⟨.ptr id (o+q*sz),?_,rfl,rfl,rfl,trivial,h⟩
         simp only [V.c,eIndexAddr,hu,eIndexAddr',hs,eShift]
         rw [if_pos ⟨Int.natCast_nonneg _,by omega⟩,Int.toNat_natCast]
       · rename_i w n f
         obtain⟨h1,h2⟩:=aA h
         obtain⟨h3,h4⟩:=aA h2
         obtain⟨q1,q2,q3⟩:=aqT h1
         rw [Bool.and_eq_true]at h3
         obtain⟨h3,h5⟩:=h3
         simp only [Nat.beq_eq]at h3
         refine⟨.lptr (f i.toNat) 0,?_,rfl,rfl,rfl,trivial,h4⟩
         simp only [V.c,eIndexAddr,hu,eIndexL]
         rw [if_pos q1,sN q3]
         simp only [h5,cond_true]
         rw [if_pos (by rw [hs,V.cs_length,h3])]
       · rename_i els
         obtain⟨q,_,q2,hq,hk⟩:=gX h
         subst hq
         clear h
         split at hk
         · rename_i c hc
           obtain⟨h3,h4⟩:=aA hk
           simp only [Nat.beq_eq]at h3
           refine⟨.lptr c 0,?_,rfl,rfl,rfl,trivial,h4⟩
           simp only [V.c,eIndexAddr,hu,eIndexL]
           rw [if_pos (Int.natCast_nonneg _),Int.toNat_natCast,V.css_map,List.getElem?_map,hc]
           simp only [Option.map_some]
           rw [if_pos (by rw [hs,V.cs_length,h3])]
         · cases hk
       · cases h
     · cases h
   · cases h
 | _=>simp [iL]at h
def xA (P : Program) (t:TypeId) (x ix:V) (kk:V→Option R):Option R:=
 match ix with
 | .int _ i=>match P.underlying t with
   | some (.array n e)=>match aG P e with
     | some sz=>match x with
       | .agg cs=>oB i (fun j=>match ajn P e cs (j*sz)with
         | some w=>bif w.safe then kk w else none
         | none=>none) n 0
       | _=>none
     | none=>none
   | some .string=>match x with
     | .str l=>cond (inR i l.length) (kk (.int .u8 ((l.getD i.toNat 0:Nat):Int))) none
     | _=>none
   | _=>none
 | _=>none
theorem aqj {P:Program}{t:TypeId}{x ix:V}{kk:V→Option R}(h:xA P t x ix kk=some r) :
  ∃w:V,eIndex P t x.c ix.c=some w.c∧x.plain=true∧ix.plain=true∧w.plain=true∧w.inr∧kk w=some r:=by
 cases ix with
 | int k i =>
   simp only [xA]at h
   split at h
   · rename_i n e hu
     split at h
     · rename_i sz hs
       split at h
       · rename_i cs
         obtain⟨q,_,q2,hq,hk⟩:=gX h
         subst hq
         clear h
         have h:=hk
         clear hk
         try simp only at h
         split at h
         · rename_i w hw
           obtain⟨h1,h2⟩:=aA h
           obtain⟨s1,s2⟩:=V.safe_ok h1
           refine⟨w,?_,rfl,rfl,s1,s2,h2⟩
           simp only [V.c,eIndex,hu,hs]
           rw [if_pos ⟨Int.natCast_nonneg _,by omega⟩,Int.toNat_natCast]
           exact w7 hw
         · cases h
       · cases h
     · cases h
   · rename_i hu
     split at h
     · rename_i l
       obtain⟨h1,h2⟩:=aA h
       obtain⟨q1,q2,q3⟩:=aqT h1
       refine⟨.int .u8 ((l.getD i.toNat 0:Nat):Int),?_,rfl,rfl,rfl,trivial,h2⟩
       simp only [V.c,eIndex,hu]
       rw [if_pos q1,List.getElem?_eq_getElem q3]
       simp only [List.getD_eq_getElem?_getD,List.getElem?_eq_getElem q3,Option.getD_some]
     · cases h
   · cases h
 | _=>simp [xA]at h
def D.setRow (d:D) (id:Nat) (r:DRow):D:={ d with hp:=(id,some (.row r))::d.hp }
def D.newRow (d:D) (r:DRow):D:={ d with n:=d.n+1,hp:=(d.n,some (.row r))::d.hp }
theorem D.setRow_H {d:D}{id:Nat}{r:DRow}:(d.setRow id r).H=d.H.put id r.o:=by
 unfold D.H D.setRow;rw [mkH_put];rfl
theorem D.newRow_H {d:D}{r:DRow}:(d.newRow r).H=d.H.new r.o:=by
 unfold D.H D.newRow;rw [mkH_new];rfl
def aqd (P:Program) (d:D) (t:TypeId) (a v:V):Option D:=
 match P.info? t with
 | some inf=>match v.cells with
   | some vs=>match a with
     | .ptr id o=>match d.row id with
       | some r=>bif Nat.beq vs.length inf.size&&Nat.ble (o+vs.length) r.cells.length then some (d.setRow id { r with cells:=setV r.cells o vs })else none
       | none=>none
     | _=>none
   | none=>none
 | none=>none
theorem aqc {P:Program}{d d':D}{t:TypeId}{a v:V}(h:aqd P d t a v=some d') :
  eStore P d.H t a.c v.c=some d'.H∧a.plain=true∧v.plain=true∧d'.fr=d.fr∧d'.tk=d.tk:=by
 unfold aqd at h
 split at h
 · rename_i inf hinf
   split at h
   · rename_i vs hvs
     obtain⟨k1,k2,k3⟩:=V.cells_c hvs
     split at h
     · rename_i id o
       split at h
       · rename_i r hr
         obtain⟨h1,h2⟩:=aA h
         simp only [Oi]at h2;subst h2
         simp only [Bool.and_eq_true,Nat.beq_eq,Nat.ble_eq]at h1
         refine⟨?_,rfl,k3,rfl,rfl⟩
         simp only [V.c,eStore,hinf,k1]
         rw [if_pos (by rw [V.cs_length];exact h1.1)]
         simp only [eStoreCells,D.row_get hr,DRow.o]
         rw [if_pos ⟨by rw [V.cs_length,V.cs_length];exact h1.2,Nat.zero_le _,k2⟩,D.setRow_H]
         simp only [DRow.o,zP]
       · cases h
     · cases h
   · cases h
 · cases h
end
end Go.Ev
namespace Go.Ev
open Go.RowKit
noncomputable section
variable {R:Type}{r:R}
theorem uN:∀ {l:List EVal}{vs:List V},ajT l=some vs→vs.length=l.length:=fun {l vs} h=>by rw [←V.cs_length,lU h]
def aqt (P:Program) (d:D) (e:TypeId):Option (V×D):=
 match bJ P e with
 | some z=>match ajT z with
   | some vs=>some (.ptr d.n 0,d.newRow ⟨vs,e,false⟩)
   | none=>none
 | none=>none
theorem aqs {P:Program}{d d':D}{e:TypeId}{w:V}(h:aqt P d e=some (w,d')):eAlloc P d.H e=some (.val w.c d'.H)∧w.safe=true∧d'.fr=d.fr∧d'.tk=d.tk:=by
 unfold aqt at h
 split at h
 · rename_i z hz
   split at h
   · rename_i vs hvs
     simp only [Oi,Prod.mk.injEq]at h
     obtain⟨rfl,rfl⟩:=h
     refine⟨?_,rfl,rfl,rfl⟩
     simp only [eAlloc,hz,V.c,D.newRow_H,DRow.o,lU hvs];rfl
   · cases h
 · cases h
def dBox (d:D) (e:TypeId) (v:V):Option (V×D):=
 match v.cells with
 | some vs=>some (.ptr d.n 0,d.newRow ⟨vs,e,false⟩)
 | none=>none
theorem dBox_ok {d d':D}{e:TypeId}{v w:V}(h:dBox d e v=some (w,d')):eBox d.H e (some v.c)=some (.val w.c d'.H)∧v.plain=true∧w.safe=true∧d'.fr=d.fr∧d'.tk=d.tk:=by
 unfold dBox at h
 split at h
 · rename_i vs hvs
   simp only [Oi,Prod.mk.injEq]at h
   obtain⟨rfl,rfl⟩:=h
   obtain⟨k1,_,k3⟩:=V.cells_c hvs
   refine⟨?_,k3,rfl,rfl,rfl⟩
   simp only [eBox,k1,V.c,D.newRow_H,DRow.o];rfl
 · cases h
def aqq (P:Program) (ty:TypeId) (ps:List (Nat×V)):Option V:=
 match bJ P ty with
 | some z => match ajT z with
   | some zs=>match P.underlying ty with
     | some (.struct fs)=>match u4 (placeS P fs) zs ps with
       | some cs=>bif eL P fs then some (.agg cs)else none
       | none=>none
     | some (.array _ e)=>match aG P e with
       | some sz=>match u4 (fun i=>some (i*sz,sz)) zs ps with
         | some cs=>some (.agg cs)
         | none=>none
       | none=>none
     | _=>none
   | none=>none
 | none=>none
theorem aqp {P:Program}{h0:H}{ty:TypeId}{ps:List (Nat×V)}{w:V}(h:aqq P ty ps=some w) :
  eBuild P h0 ty (some (ps.map fun p=>(p.1,p.2.c)))=some (.val w.c h0)∧w.safe=true:=by
 unfold aqq at h
 split at h
 · rename_i z hz
   split at h
   · rename_i zs hzs
     split at h
     · rename_i fs hu
       split at h
       · rename_i cs hcs
         obtain⟨h1,h2⟩:=aA h
         simp only [Oi]at h2;subst h2
         have:=qZ hcs
         rw [lU hzs]at this
         refine⟨?_,rfl⟩
         simp only [eBuild,hz,hu,eBuildS,this,h1,if_true,V.c]
       · cases h
     · rename_i e hu
       split at h
       · rename_i sz hs
         split at h
         · rename_i cs hcs
           simp only [Oi]at h;subst h
           have:=qZ hcs
           rw [lU hzs]at this
           refine⟨?_,rfl⟩
           simp only [eBuild,hz,hu,eBuildA,hs,this,V.c]
         · cases h
       · cases h
     · cases h
   · cases h
 · cases h
def z5 (z:List V):Nat→List V
 | 0=>[]
 | n+1=>z++z5 z n
theorem z4 (z:List V):∀n,V.cs (z5 z n)=repl (V.cs z) n
 | 0=>by rw [z5,V.cs];rfl
 | n+1=>by rw [z5,V.cs_append,z4 z n,repl]
def D.z0 (d:D):EVal:=bif Nat.ble 1099511627776 d.m then .zslt (d.m % 1099511627776-1)else .zsl
def i8 (P : Program) (d:D) (ty:TypeId) (len:Nat) (ps:List (Nat×V)):Option (V×D):=
 match P.underlying ty with
 | some (.slice e)=>match aG P e with
   | some sz => match bJ P e with
     | some z => match ajT z with
       | some zs=>bif Nat.ble (len*sz) 1000&&Nat.beq zs.length sz then
         match u4 (fun i=>some (i*sz,sz)) (z5 zs len) ps with
         | some cs=>match Nat.ble 128 (d.m % 1024)with
           | false=>some (.sl d.n 0 len (.exact len),d.newRow ⟨cs,e,false⟩)
           | true=>bif Nat.beq len 0 then some (.raw d.z0,d)else match lY cs with
             | some cs'=>bif Nat.beq cs'.length (len*sz)then some (.el (eD sz len cs'),d)else none
             | none=>none
         | none=>none
         else none
       | none=>none
     | none=>none
   | none=>none
 | _=>none
theorem D.fz {d:D}:d.H.fz=decide (128≤d.m % 1024):=rfl
theorem D.z0_c {d:D}:(V.raw d.z0).c=d.H.z0∧(V.raw d.z0).safe=true:=by
 unfold D.z0 H.z0
 show _∧_
 have e:d.H.m=d.m:=rfl
 rw [e]
 cases hb:Nat.ble 1099511627776 d.m with
 | true=>rw [Nat.ble_eq]at hb;rw [if_pos hb];exact⟨by simp only [cond_true,V.c],rfl⟩
 | false=>
   have hn:¬1099511627776≤d.m:=fun h=>by rw [←Nat.ble_eq]at h;rw [h]at hb;cases hb
   rw [if_neg hn];exact⟨by simp only [cond_false,V.c],rfl⟩
theorem oW {P : Program} {d d':D}{ty:TypeId}{len:Nat}{ps:List (Nat×V)}{w:V}(h:i8 P d ty len ps=some (w,d')) :
  eBuildSlice P d.H ty len (some (ps.map fun p=>(p.1,p.2.c)))=some (.val w.c d'.H)∧w.safe=true∧d'.fr=d.fr∧d'.tk=d.tk:=by
 unfold i8 at h
 split at h
 · rename_i e hu
   split at h
   · rename_i sz hs
     split at h
     · rename_i z hz
       split at h
       · rename_i zs hzs
         obtain⟨h1,h⟩:=aA h
         simp only [Bool.and_eq_true,Nat.beq_eq,Nat.ble_eq]at h1
         have hzl:=uN hzs
         split at h
         · rename_i cs hcs
           have hf:=qZ hcs
           rw [z4,lU hzs]at hf
           simp only [eBuildSlice,hu,hs,hz,eBuildSlice']
           rw [if_pos ⟨h1.1,by omega⟩]
           simp only [hf,D.fz]
           split at h
           · rename_i hm
             have:decide (128≤d.m % 1024)=false:=by
              simp only [decide_eq_false_iff_not]
              intro hc
              rw [←Nat.ble_eq]at hc
              rw [hc]at hm;cases hm
             simp only [Oi,Prod.mk.injEq]at h
             obtain⟨rfl,rfl⟩:=h
             refine⟨?_,rfl,rfl,rfl⟩
             simp only [this,V.c,D.newRow_H,DRow.o];rfl
           · rename_i hm
             rw [Nat.ble_eq]at hm
             cases h0:Nat.beq len 0 with
             | true=>
               rw [h0]at h
               simp only [cond_true,Oi,Prod.mk.injEq]at h
               obtain⟨rfl,rfl⟩:=h
               refine⟨?_,D.z0_c.2,rfl,rfl⟩
               simp only [decide_eq_true hm,D.z0_c.1]
               rw [if_pos (Nat.eq_of_beq_eq_true h0)]
             | false=>
             rw [h0,cond_false]at h
             have h0':¬len=0:=fun e=>by rw [e]at h0;cases h0
             split at h
             · rename_i cs' hk
               obtain⟨h3,h⟩:=aA h
               simp only [Oi,Prod.mk.injEq]at h
               obtain⟨rfl,rfl⟩:=h
               simp only [Nat.beq_eq]at h3
               refine⟨?_,rfl,rfl,rfl⟩
               have e1:=(iC hk).1
               simp only [decide_eq_true hm,e1]
               rw [if_neg h0',if_pos (by rw [V.cs_length];exact h3)]
               simp only [V.c,j9]
             · cases h
         · cases h
       · cases h
     · cases h
   · cases h
 · cases h
def dUn (op:UnOp) (x:V):Option V:=
 match op,x with
 | .neg,.int k n=>some (.int k (k.wrap (0-n)))
 | .not,.bool b=>some (.bool !b)
 | _,_=>none
theorem dUn_ok {op:UnOp}{x w:V}(h:dUn op x=some w):eUn op x.c=some w.c∧x.plain=true∧w.safe=true:=by
 unfold dUn at h
 split at h<;>first|(cases h;done)|(simp only [Oi]at h;subst h;exact⟨by simp only [V.c,eUn],rfl,rfl⟩)
def dConv (P:Program) (s t:TypeId) (x:V):Option V:=
 match P.underlying s with
 | some (.unsafePointer)=>none
 | some (.pointer _)=>none
 | some _=>match P.underlying t with
   | some (.int k)=>match x with
     | .int _ n=>some (.int k (k.wrap n))
     | _=>none
   | some .string=>match x with
     | .int _ n=>some (.str (runeE n))
     | .str l=>some (.str l)
     | _=>none
   | _=>none
 | none=>none
theorem ajt {P:Program}{h0:H}{s t:TypeId}{x w:V}(h:dConv P s t x=some w):eConvert P h0 s t x.c=some w.c∧x.plain=true∧w.safe=true:=by
 unfold dConv at h
 split at h
 · cases h
 · cases h
 · rename_i hs
   split at h
   · rename_i k ht
     split at h
     · simp only [Oi]at h;subst h;exact⟨by simp only [V.c,eConvert,hs,ht],rfl,rfl⟩
     · cases h
   · rename_i ht
     split at h
     · simp only [Oi]at h;subst h;exact⟨by simp only [V.c,eConvert,hs,ht],rfl,rfl⟩
     · simp only [Oi]at h;subst h;exact⟨by simp only [V.c,eConvert,hs,ht],rfl,rfl⟩
     · cases h
   · cases h
 · cases h
def rF (i:Nat) (x:V):Option V:=
 match x with
 | .tup l=>match l[i]? with
   | some w=>bif w.safe then some w else none
   | none=>none
 | _=>none
theorem vG {h0:H}{i:Nat}{x w:V}(h:rF i x=some w):eExtract h0 i (some x.c)=some (.val w.c h0)∧x.plain=true∧w.safe=true:=by
 unfold rF at h
 split at h
 · split at h
   · rename_i w' hw
     obtain⟨h1,h2⟩:=aA h
     simp only [Oi]at h2;subst h2
     exact⟨by simp only [V.c,eExtract,V.cs_get,hw,Option.map_some,mk],rfl,h1⟩
   · cases h
 · cases h
def axk (x:Option V) (dflt top:Nat):Option Nat:=
 match x with
 | none=>some dflt
 | some (.int _ i)=>bif decide (0≤i)&&decide (i≤(top:Int))then some i.toNat else none
 | _=>none
theorem kZ {x:Option V}{dflt top n:Nat}(h:axk x dflt top=some n):bound (x.map V.c) dflt top=some n∧∀v,x=some v→v.plain=true:=by
 unfold axk at h
 split at h
 · exact⟨h,by simp⟩
 · rename_i k i
   cases hc:(decide (0≤i)&&decide (i≤(top:Int)))with
   | false=>rw [hc]at h;cases h
   | true=>
     rw [hc]at h
     simp only [Bool.and_eq_true,decide_eq_true_eq]at hc
     simp only [cond_true]at h
     refine⟨?_,fun v hv=>by cases hv;rfl⟩
     simp only [Option.map_some,V.c,bound]
     rw [if_pos hc];exact h
 · cases h
def vC (P : Program) (t:TypeId) (x:V) (lo hi:Option V):Option V:=
 match P.underlying t with
 | some (.array n e)=>match axk hi n n with
   | some b=>match aG P e with
     | some sz=>match axk lo 0 b with
       | some a=>match x with
         | .ptr id off=>some (.sl id (bif Nat.beq n a then off else off+a*sz) (b-a) (.exact (n-a)))
         | .lptr cells off=>bif Nat.blt a n&&Nat.ble (off+a*sz+(b-a)*sz) cells.length then some (.el (eD sz (b-a) ((cells.drop (off+a*sz)).take ((b-a)*sz))))else none
         | _=>none
       | none=>none
     | none=>none
   | none=>none
 | some (.slice e)=>match x with
   | .sl id off len (.exact c)=>match axk hi len c with
     | some b=>match aG P e with
       | some sz=>match axk lo 0 b with
         | some a=>some (.sl id (bif Nat.beq c a then off else off+a*sz) (b-a) (.exact (c-a)))
         | none=>none
       | none=>none
     | none=>none
   | .el els=>match axk hi els.length els.length with
     | some b=>match aG P e with
       | some sz=>match axk lo 0 b with
         | some a=>bif els.all fun c=>Nat.beq c.length sz then some (.el ((els.take b).drop a))else none
         | none=>none
       | none=>none
     | none=>none
   | _=>none
 | _=>none
theorem axl {α:Type}{n a:Nat}{x y:α}:(if n=a then x else y)=bif Nat.beq n a then x else y:=by
 by_cases h:n=a
 · subst h;simp [Nat.beq_refl]
 · have hb:Nat.beq n a=false:=by
    cases hq:Nat.beq n a
    · rfl
    · exact absurd (Nat.eq_of_beq_eq_true hq) h
   simp [h,hb]
theorem yO {P:Program}{t:TypeId}{x:V}{lo hi:Option V}{w:V}(h:vC P t x lo hi=some w) :
  eSlice P t x.c (lo.map V.c) (hi.map V.c)=some w.c∧x.plain=true∧(∀v,lo=some v→v.plain=true)∧(∀v,hi=some v→v.plain=true)∧w.safe=true:=by
 unfold vC at h
 split at h
 · rename_i n e hu
   split at h
   rotate_left
   · cases h
   rename_i b hb
   split at h
   rotate_left
   · cases h
   rename_i sz hs
   split at h
   rotate_left
   · cases h
   rename_i a ha
   obtain⟨b1,b2⟩:=kZ hb
   obtain⟨a1,a2⟩:=kZ ha
   split at h
   · simp only [Oi]at h;subst h
     refine⟨?_,rfl,a2,b2,rfl⟩
     simp only [V.c,eSlice,hu,b1,hs,a1,axl]
   · rename_i cells off
     cases hc:(Nat.blt a n&&Nat.ble (off+a*sz+(b-a)*sz) cells.length)with
     | false=>rw [hc]at h;cases h
     | true=>
       rw [hc]at h
       simp only [cond_true,Oi]at h;subst h
       refine⟨?_,rfl,a2,b2,rfl⟩
       simp only [V.c,eSlice,hu,b1,hs,a1,V.cs_length,hc,cond_true]
       simp only [j9,V.cs_map,List.map_take,List.map_drop]
   · cases h
 · rename_i e hu
   split at h
   · rename_i id off len c
     split at h
     rotate_left
     · cases h
     rename_i b hb
     split at h
     rotate_left
     · cases h
     rename_i sz hs
     split at h
     rotate_left
     · cases h
     rename_i a ha
     obtain⟨b1,b2⟩:=kZ hb
     obtain⟨a1,a2⟩:=kZ ha
     simp only [Oi]at h;subst h
     refine⟨?_,rfl,a2,b2,rfl⟩
     simp only [V.c,eSlice,hu,b1,hs,a1,axl]
   · rename_i els
     split at h
     rotate_left
     · cases h
     rename_i b hb
     split at h
     rotate_left
     · cases h
     rename_i sz hs
     split at h
     rotate_left
     · cases h
     rename_i a ha
     obtain⟨b1,b2⟩:=kZ hb
     obtain⟨a1,a2⟩:=kZ ha
     cases hc:(els.all fun c=>Nat.beq c.length sz)with
     | false=>rw [hc]at h;cases h
     | true=>
       rw [hc]at h
       simp only [cond_true,Oi]at h;subst h
       refine⟨?_,rfl,a2,b2,rfl⟩
       have hl:aL sz (V.css els)=true:=by
        unfold aL
        rw [V.css_map,List.all_map]
        rw [←hc]
        congr 1
        funext c
        simp only [Function.comp_def,V.cs_length]
        rw [Bool.eq_iff_iff];simp
       simp only [V.c,eSlice,hu,eSliceL,V.css_length,b1,hs,a1,hl,if_true]
       simp only [V.css_map,List.map_take,List.map_drop]
   · cases h
 · cases h
def vD (P:Program) (t:TypeId) (x:V) (lo hi:Option V) (kk:V→Option R):Option R:=
 match P.underlying t with
 | some .string=>match x with
   | .str s=>
     let go (b:Nat):Option R:=match lo with
      | none=>kk (.str ((s.take b).drop 0))
      | some (.int _ i)=>cond (decide (0≤i)&&decide (i≤(b:Int))) (kk (.str ((s.take b).drop i.toNat))) none
      | some _=>none
     match hi with
     | none=>go s.length
     | some (.int _ j)=>cond (decide (0≤j)&&decide (j≤(s.length:Int))) (go j.toNat) none
     | some _=>none
   | _=>none
 | _=>match vC P t x lo hi with
   | some w=>kk w
   | none=>none
theorem yP {P:Program}{t:TypeId}{x:V}{lo hi:Option V}{kk:V→Option R}(h:vD P t x lo hi kk=some r) :
  ∃w:V,eSlice P t x.c (lo.map V.c) (hi.map V.c)=some w.c∧x.plain=true∧(∀v,lo=some v→v.plain=true)∧(∀v,hi=some v→v.plain=true)∧w.safe=true∧kk w=some r:=by
 unfold vD at h
 split at h
 · rename_i hu
   cases x with
   | str s=>
     simp only at h
     have go:∀b,(match lo with
       | none=>kk (.str ((s.take b).drop 0))
       | some (.int _ i)=>cond (decide (0≤i)&&decide (i≤(b:Int))) (kk (.str ((s.take b).drop i.toNat))) none
       | some _=>none)=some r→∃a,bound (lo.map V.c) 0 b=some a∧(∀v,lo=some v→v.plain=true)∧kk (.str ((s.take b).drop a))=some r:=by
      intro b hb
      split at hb
      · exact⟨0,rfl,by simp,hb⟩
      · rename_i k i
        obtain⟨h1,h2⟩:=aA hb
        simp only [Bool.and_eq_true,decide_eq_true_eq]at h1
        exact⟨i.toNat,by simp only [Option.map_some,V.c,bound];rw [if_pos h1],fun v hv=>(by cases hv;rfl),h2⟩
      · cases hb
     split at h
     · obtain ⟨a,h1,h2,h3⟩:=go _ h
       exact⟨.str ((s.take s.length).drop a),by simp only [V.c,eSlice,hu,Option.map_none];rw [show bound none s.length s.length=some s.length from rfl];simp only [h1],rfl,h2,by simp,rfl,h3⟩
     · rename_i k j
       obtain⟨h0,h⟩:=aA h
       simp only [Bool.and_eq_true,decide_eq_true_eq]at h0
       obtain⟨a,h1,h2,h3⟩:=go _ h
       refine⟨.str ((s.take j.toNat).drop a),?_,rfl,h2,fun v hv=>(by cases hv;rfl),rfl,h3⟩
       have hb:bound (some (V.int k j).c) s.length s.length=some j.toNat:=by simp only [V.c,bound];rw [if_pos h0]
       simp only [V.c]at hb
       simp only [V.c,eSlice,hu,Option.map_some,hb,h1]
     · cases h
   | _=>simp at h
 · split at h
   · rename_i w hw
     obtain⟨h1,h2,h3,h4,h5⟩:=yO hw
     exact⟨w,h1,h2,h3,h4,h5,h⟩
   · cases h
def flOf (P:Program) (t:TypeId) (x:V):Option (Nat×Nat×(Nat→List V)):=match x with
 | .fl w n f=>match P.underlying t with
   | some (.slice e)=>match aG P e with
     | some sz=>bif Nat.beq w sz then some (w,n,f)else none
     | none=>none
   | _=>none
 | _=>none
def aju (x:Option V) (dflt top:Nat) (kk:Nat→Option R):Option R:=match x with
 | none=>kk dflt
 | some (.int _ i)=>cond (decide (0≤i)&&decide (i≤(top:Int))) (kk i.toNat) none
 | some _=>none
theorem xD {x:Option V}{dflt top:Nat}{kk:Nat→Option R}(hd:dflt≤top) (h:aju x dflt top kk=some r):∃b,bound (x.map V.c) dflt top=some b∧(∀v,x=some v→v.plain=true)∧b≤top∧kk b=some r:=by
 unfold aju at h
 split at h
 · exact⟨dflt,rfl,by simp,hd,h⟩
 · rename_i k i
   obtain⟨h1,h2⟩:=aA h
   simp only [Bool.and_eq_true,decide_eq_true_eq]at h1
   exact⟨i.toNat,by simp only [Option.map_some,V.c,bound];rw [if_pos h1],fun v hv=>(by cases hv;rfl),by omega,h2⟩
 · cases h
def i6 (P:Program) (t:TypeId) (x:V) (lo hi:Option V) (kk:V→Option R):Option R:=
 match flOf P t x with
 | some (w,n,f)=>aju hi n n fun b=>aju lo 0 b fun a=>kk (.fl w (b-a) fun i=>f (a+i))
 | none=>vD P t x lo hi kk
theorem xW {α:Type}(g:Nat→α) {n a b:Nat}(h:b≤n):(((List.range n).map g).take b).drop a=(List.range (b-a)).map fun i=>g (a+i):=by
 apply List.ext_getElem
 · simp only [List.length_drop,List.length_take,List.length_map,List.length_range];omega
 · intro i h1 h2
   simp only [List.getElem_drop,List.getElem_take,List.getElem_map,List.getElem_range]
theorem yN {P:Program}{t:TypeId}{x:V}{lo hi:Option V}{kk:V→Option R}(h:i6 P t x lo hi kk=some r) :
  ∃w:V,eSlice P t x.c (lo.map V.c) (hi.map V.c)=some w.c∧x.plain=true∧(∀v,lo=some v→v.plain=true)∧(∀v,hi=some v→v.plain=true)∧w.safe=true∧kk w=some r:=by
 unfold i6 at h
 split at h
 · rename_i w n f hf
   unfold flOf at hf
   split at hf
   rotate_left
   · cases hf
   rename_i w' n' f'
   split at hf
   rotate_left
   · cases hf
   rename_i e hu
   split at hf
   rotate_left
   · cases hf
   rename_i sz hs
   obtain⟨hw,hf⟩:=aA hf
   simp only [Oi,Prod.mk.injEq]at hf
   obtain⟨e1,e2,e3⟩:=hf
   subst e1;subst e2;subst e3
   have e4:=Nat.eq_of_beq_eq_true hw
   subst e4
   obtain⟨b,b1,b2,b3,h⟩:=xD (Nat.le_refl _) h
   obtain⟨a,a1,a2,a3,h⟩:=xD (Nat.zero_le _) h
   refine⟨_,?_,rfl,a2,b2,rfl,h⟩
   have hl:aL w' ((List.range n').map fun i=>bif okW w' (f' i)then V.cs (f' i)else List.replicate w' (.bool false))=true:=by
    unfold aL
    rw [List.all_eq_true]
    intro q hq
    simp only [List.mem_map,List.mem_range]at hq
    obtain⟨i,_,rfl⟩:=hq
    cases hok:okW w' (f' i)with
    | true=>
      unfold okW at hok
      rw [Bool.and_eq_true,Nat.beq_eq]at hok
      simp only [cond_true,V.cs_length,hok.1,beq_self_eq_true]
    | false=>simp
   simp only [V.c,eSlice,hu,eSliceL,List.length_map,List.length_range,b1,hs,a1,hl,if_true]
   rw [xW _ b3]
 · exact yP h
def dLen (P:Program) (d:D) (t:TypeId) (x:V):Option V:=
 match P.underlying t with
 | some .string=>match x with
   | .str l=>some (.int .i64 (l.length:Nat))
   | _=>none
 | some (.array n _)=>some (.int .i64 (n:Nat))
 | some (.slice _)=>match x with
   | .sl _ _ n _=>some (.int .i64 (n:Nat))
   | .nils=>some (.int .i64 0)
   | .fl _ n _=>some (.int .i64 (n:Nat))
   | .el els=>some (.int .i64 (els.length:Nat))
   | .gl id=>match lookA d.tk id with
     | some x=>some (.int .i64 (x.1.length:Nat))
     | none=>none
   | _=>none
 | _=>none
theorem dLen_ok {P:Program}{d:D}{h0:H}{t:TypeId}{x w:V}(h:dLen P d t x=some w):eLen P h0 t (x.ct d.tk)=some w.c∧w.safe=true:=by
 unfold dLen at h
 split at h
 · rename_i hu
   split at h
   · simp only [Oi]at h;subst h;exact⟨by simp only [V.ct,V.c,eLen,hu],rfl⟩
   · cases h
 · rename_i n e hu
   simp only [Oi]at h;subst h;exact⟨by simp only [eLen,hu,V.c],rfl⟩
 · rename_i e hu
   split at h
   · simp only [Oi]at h;subst h;exact⟨by simp only [V.ct,V.c,eLen,hu],rfl⟩
   · simp only [Oi]at h;subst h;exact⟨by simp only [V.ct,V.c,eLen,hu],rfl⟩
   · simp only [Oi]at h;subst h;exact⟨by simp only [V.ct,V.c,eLen,hu,List.length_map,List.length_range],rfl⟩
   · simp only [Oi]at h;subst h;exact⟨by simp only [V.ct,V.c,eLen,hu,V.css_length],rfl⟩
   · split at h
     · rename_i id y hy
       simp only [Oi]at h;subst h;exact⟨by simp only [V.ct,hy,V.c,eLen,hu,V.css_length],rfl⟩
     · cases h
   · cases h
 · cases h
def uT (sz:Nat) (els:List (List V)):Bool:=els.all fun c=>Nat.beq c.length sz
theorem aqJ {sz:Nat}{els:List (List V)}:aL sz (V.css els)=uT sz els:=by
 unfold aL uT
 rw [V.css_map,List.all_map]
 congr 1
 funext c
 simp only [Function.comp_def,V.cs_length]
 rw [Bool.eq_iff_iff];simp
def dSrc (d:D) (sz:Nat) (x:V) (kk:List V→Nat→Option R):Option R:=
 match x with
 | .nils=>kk [] 0
 | .sl id off len _=>match d.row id with
   | some r=>match sC r.cells off (len*sz)with
     | some c=>kk c len
     | none=>none
   | none=>none
 | .el els=>cond (uT sz els) (kk els.flatten els.length) none
 | _=>none
theorem vI (els:List (List V)):V.cs els.flatten=(V.css els).flatten:=by
 rw [V.cs_map,V.css_map,List.map_flatten]
 congr 1
 apply List.map_congr_left
 intro a _;rw [V.cs_map]
theorem aqe {d:D}{sz:Nat}{x:V}{kk:List V→Nat→Option R}(h:dSrc d sz x kk=some r):∃c n,srcCells d.H sz x.c=some (V.cs c,n)∧x.plain=true∧kk c n=some r:=by
 unfold dSrc at h
 split at h
 · exact⟨_,_,by simp only [V.c,srcCells,V.cs],rfl,h⟩
 · split at h
   · rename_i id off len cap _ r' hr
     split at h
     · rename_i c hc
       refine⟨_,_,?_,rfl,h⟩
       simp only [V.c,srcCells,D.row_get hr,DRow.o,kJ hc]
     · cases h
   · cases h
 · rename_i els
   obtain⟨h1,h2⟩:=aA h
   refine⟨_,_,?_,rfl,h2⟩
   simp only [V.c,srcCells]
   rw [if_pos (by rw [aqJ];exact h1),V.css_length,vI]
 · cases h
def aqD (id:Nat):List (Nat×Option V)→List (Nat×Option V)
 | []=>[]
 | (i,v)::l=>match v with
   | some (.gl j)=>bif Nat.beq j id then(i,none)::aqD id l else(i,v)::aqD id l
   | _=>(i,v)::aqD id l
def jW (l:List Nat) (pos:Nat):Nat×Nat:=(cQ l pos).getD (0,1)
def D.setIter (d:D) (id:Nat) (s:List Nat) (pos:Nat):D:={ d with hp:=(id,some (.iter s pos))::d.hp }
def D.newIter (d:D) (s:List Nat):D:={ d with n:=d.n+1,hp:=(d.n,some (.iter s 0))::d.hp }
theorem D.setIter_H {d:D}{id:Nat}{s:List Nat}{pos:Nat}:(d.setIter id s pos).H=d.H.put id (.iter s pos):=by
 unfold D.H D.setIter;rw [mkH_put];rfl
theorem D.newIter_H {d:D}{s:List Nat}:(d.newIter s).H=d.H.new (.iter s 0):=by
 unfold D.H D.newIter;rw [mkH_new];rfl
def aqh (P:Program) (d:D) (ty:TypeId) (x:V):Option (V×D):=
 match P.underlying ty with
 | some .string=>match x with
   | .str l=>some (.ptr d.n 0,d.newIter l)
   | _=>none
 | _=>none
theorem aqg {P:Program}{d d':D}{ty:TypeId}{x w:V}(h:aqh P d ty x=some (w,d')):eRange P d.H ty (some x.c)=some (.val w.c d'.H)∧x.plain=true∧w.safe=true∧d'.fr=d.fr∧d'.tk=d.tk:=by
 unfold aqh at h
 split at h
 · rename_i hu
   split at h
   · simp only [Oi,Prod.mk.injEq]at h
     obtain⟨rfl,rfl⟩:=h
     refine⟨?_,rfl,rfl,rfl,rfl⟩
     simp only [V.c,eRange,hu,D.newIter_H];rfl
   · cases h
 · cases h
def dNext (d:D) (x:V) (kk:V→D→Option R):Option R:=
 match x with
 | .ptr id 0=>match d.itr id with
   | some y=>cond (Nat.blt y.2 y.1.length) (kk (.tup [.bool true,.int .i64 (y.2:Nat),.int .i32 ((jW y.1 y.2).1:Nat)]) (d.setIter id y.1 (y.2+(jW y.1 y.2).2))) (kk (.tup [.bool false]) d)
   | none=>none
 | _=>none
theorem oX {l:List Nat}{pos:Nat}(h:pos<l.length):cQ l pos=some (jW l pos):=by
 unfold jW cQ
 rw [List.getElem?_eq_getElem h]
 simp only
 split<;>rfl
theorem ajo {d:D}{x:V}{kk:V→D→Option R}(h:dNext d x kk=some r) :
  ∃w d',eNextS d.H (some x.c)=some (.val w.c d'.H)∧x.plain=true∧w.safe=true∧d'.fr=d.fr∧d'.tk=d.tk∧kk w d'=some r:=by
 unfold dNext at h
 split at h
 · split at h
   · rename_i id _ y hy
     have hg:=D.obj_get (D.itr_obj hy)
     simp only [DObj.o]at hg
     cases hb:Nat.blt y.2 y.1.length with
     | true=>
       rw [hb]at h
       rw [Nat.blt_eq]at hb
       refine⟨_,_,?_,rfl,rfl,?_,?_,h⟩
       · simp only [V.c,V.cs,eNextS,hg,eNextS',if_pos hb,oX hb,D.setIter_H]
       · rfl
       · rfl
     | false=>
       rw [hb]at h
       have hb2:¬y.2<y.1.length:=fun hc=>by rw [←Nat.blt_eq,hb]at hc;cases hc
       refine⟨_,d,?_,rfl,rfl,rfl,rfl,h⟩
       simp only [V.c,V.cs,eNextS,hg,eNextS',if_neg hb2]
   · cases h
 · cases h
end
end Go.Ev
namespace Go.Ev
open Go.RowKit
theorem gR:∀ {a b a' b':List EVal},keepL a=some a'→keepL b=some b'→keepL (a++b)=some (a'++b')
 | [],b,a',b',h1,h2=>by simp only [keepL,Oi]at h1;subst h1;exact h2
 | v :: a,b,a',b',h1,h2=>by
   simp only [keepL]at h1
   split at h1
   · rename_i x y hx hy
     simp only [Oi]at h1;subst h1
     have:=gR hy h2
     simp only [List.cons_append,keepL,hx,this]
   · cases h1
theorem cK:∀ {l:List (List EVal)},(∀r∈l,keepL r=some r)→keepL l.flatten=some l.flatten
 | [],_=>rfl
 | a::l,h=>by rw [List.flatten_cons];exact gR (h a List.mem_cons_self) (cK fun r hr=>h r (List.mem_cons_of_mem _ hr))
theorem kept_c {v:V}(h:v.kept=true):Go.Ev.keep1 v.c=some v.c:=by
 unfold V.kept at h
 split at h<;>first|(cases h;done)|(simp only [V.c];rfl)
theorem keptB_c:∀ {l:List V},keptB l=true→keepL (V.cs l)=some (V.cs l)
 | [],_=>by rw [V.cs];rfl
 | v::l,h=>by
   simp only [keptB]at h
   obtain⟨h1,h2⟩:v.kept=true∧keptB l=true:=by cases hv:v.kept<;>rw [hv]at h<;>first|cases h|exact⟨rfl,h⟩
   simp only [V.cs,keepL,kept_c h1,keptB_c h2]
theorem nQ:∀w,keepL (List.replicate w (.bool false))=some (List.replicate w (.bool false))
 | 0=>rfl
 | w+1=>by simp only [List.replicate_succ,keepL,nQ w];rfl
theorem cP {sz:Nat}:∀ {l:List (List EVal)},(∀r∈l,r.length=sz)→chunk sz l.length l.flatten=l
 | [],_=>rfl
 | a::l,h=>by
   have h1:=h a List.mem_cons_self
   simp only [List.length_cons,List.flatten_cons,chunk]
   rw [List.take_append_of_le_length (by omega),List.take_of_length_le (by omega),List.drop_append_of_le_length (by omega),List.drop_of_length_le (by omega),List.nil_append,cP fun r hr=>h r (List.mem_cons_of_mem _ hr)]
noncomputable section
def dB (sz:Nat):V→Option Nat
 | .fl w n _=>bif Nat.beq w sz then some n else none
 | _=>none
theorem iB {sz n:Nat}{x:V}(h:dB sz x=some n):∃rows,x.c=.lsl rows∧rows.length=n∧(∀r∈rows,r.length=sz∧keepL r=some r)∧x.plain=true∧x.inr:=by
 unfold dB at h
 split at h
 · rename_i w n f
   obtain⟨h1,h2⟩:=aA h
   simp only [Oi]at h2;subst h2
   obtain rfl:=Nat.eq_of_beq_eq_true h1
   refine⟨_,by rw [V.c],by simp,fun r hr=>?_,rfl,trivial⟩
   simp only [List.mem_map,List.mem_range]at hr
   obtain⟨i,_,rfl⟩:=hr
   cases hq:okW w (f i)with
   | true=>
     have hq':=hq
     unfold okW at hq'
     rw [Bool.and_eq_true,Nat.beq_eq]at hq'
     exact⟨by rw [cond_true,V.cs_length];exact hq'.1,by rw [cond_true];exact keptB_c hq'.2⟩
   | false=>exact⟨by simp,by rw [cond_false];exact nQ w⟩
 · cases h
def mF:V→List (List V)
 | .fl w n f=>(List.range n).map fun i=>bif okW w (f i)then f i else List.replicate w (.bool false)
 | _=>[]
theorem aqQ {sz n:Nat}{x:V}(h:dB sz x=some n):x.c=.lsl (V.css (mF x))∧(mF x).length=n:=by
 unfold dB at h
 split at h
 · rename_i w n f
   obtain⟨h1,h2⟩:=aA h
   simp only [Oi]at h2;subst h2
   refine⟨?_,by simp [mF]⟩
   rw [V.c,mF,V.css_map,List.map_map]
   congr 1
   apply List.map_congr_left
   intro i _
   show _=V.cs (bif okW w (f i)then f i else List.replicate w (.bool false))
   cases okW w (f i)with
   | true=>rfl
   | false=>simp only [cond_false,V.cs_map,List.map_replicate,V.c]
 · cases h
theorem qX {sz:Nat}:∀ {l:List (List EVal)},(∀r∈l,r.length=sz)→l.flatten.length=l.length*sz
 | [],_=>by simp
 | a::l,h=>by
   rw [List.flatten_cons,List.length_append,h a List.mem_cons_self,qX fun r hr=>h r (List.mem_cons_of_mem _ hr),List.length_cons,Nat.succ_mul];omega
end
end Go.Ev
namespace Go.Ev
open Go.RowKit
noncomputable section
variable {R:Type}{r:R}
def D.killRow (d:D) (id:Nat):D:={ d with hp:=(id,none)::d.hp }
theorem D.killRow_H {d:D}{id:Nat}:(d.killRow id).H=d.H.kill id:=by
 unfold D.H D.killRow;rw [mkH_kill];rfl
def D.push (d:D) (id:Nat) (x:List (List V)×TypeId):D:={ d with fr:=⟨aqD id d.fr.l,d.fr.ds,d.fr.rd,d.fr.sh⟩,tk:=(id,x)::d.tk }
theorem D.push_H {d:D}{id:Nat}{x:List (List V)×TypeId}:(d.push id x).H=d.H.tok id x.1.length x.2:=by
 unfold D.H D.push;rw [mkH_tok];rfl
def aqk (P:Program) (d:D) (e:TypeId) (sz bytes:Nat) (cells:List V) (need:Nat) (kk:V→D→Option R):Option R:=
 bif aI P e sz bytes need then kk (.sl d.n 0 need (.slack 0)) (d.newRow ⟨cells,e,true⟩)else none
def ajx (P:Program) (d:D) (e:TypeId) (inf:TypeInfo) (s x:V) (kk:V→D→Option R):Option R:=
 dSrc d inf.size x fun new n=>
   match s with
   | .gl id=>match d.tok id with
     | some (els,e')=>bif Nat.beq n 0 then kk (.gl id) d else
       match lY new with
       | some new'=>bif decide (e'=e)&&Nat.beq new'.length (n*inf.size)&&Nat.blt 0 inf.size&&aI P e inf.size inf.bytes 0 then
         cond (Nat.ble (inf.bytes*(els.length+n)) 1000000) (kk (.gl id) (d.push id (els++eD inf.size n new',e))) none
         else none
       | none=>none
     | none=>none
   | .nils=>bif Nat.beq n 0 then kk .nils d else aqk P d e inf.size inf.bytes new n kk
   | .sl id off len (.exact c)=>bif Nat.blt c (len+n)then
     match d.row id with
     | some rw=>match sC rw.cells off (len*inf.size)with
       | some old=>aqk P d e inf.size inf.bytes (old++new) (len+n) kk
       | none=>none
     | none=>none
     else none
   | .sl id 0 len (.slack 0)=>match d.row id with
     | some rw=>bif rw.sl&&decide (rw.e=e)&&Nat.blt 0 inf.size&&Nat.ble (len*inf.size) rw.cells.length&&Nat.blt 0 n&&Nat.blt rw.cells.length ((len+n)*inf.size)&&ones new then
       aqk P (d.killRow id) e inf.size inf.bytes (rw.cells.take (len*inf.size)++new) (len+n) kk
       else none
     | none=>none
   | _=>none
def dAppK (P:Program) (d:D) (e:TypeId) (inf:TypeInfo) (id n:Nat) (x:V) (kk:V→D→Option R):Option R:=
 match d.tok id with
 | some (els,e')=>cond (Nat.beq n 0) (kk (.gl id) d) (bif decide (e'=e)&&Nat.blt 0 inf.size&&aI P e inf.size inf.bytes 0 then
   cond (Nat.ble (inf.bytes*(els.length+n)) 1000000) (kk (.gl id) (d.push id (els++mF x,e))) none else none)
 | none=>none
def dAppT (P:Program) (d:D) (e:TypeId) (inf:TypeInfo) (id n:Nat) (x:V) (kk:V→D→Option R):Option R:=
 match d.tok id with
 | some ([],e')=>match P.info? e' with
   | some _=>none
   | none=>bif Nat.blt 0 inf.size&&aI P e inf.size inf.bytes 0 then cond (Nat.ble (inf.bytes*n) 1000000) (kk (.gl id) ((d.push id ([],e)).push id (mF x,e))) none else none
 | _=>none
def isZt:V→Option Nat
 | .raw (.zslt id)=>some id
 | _=>none
def isGl:V→Option Nat
 | .gl id=>some id
 | _=>none
def dAppS (P:Program) (d:D) (e:TypeId) (inf:TypeInfo) (s x:V) (kk:V→D→Option R):Option R:=
 match isGl s with
 | some id=>match dB inf.size x with
   | some n=>dAppK P d e inf id n x kk
   | none=>ajx P d e inf s x kk
 | none=>match isZt s with
   | some id=>match dB inf.size x with
     | some n=>dAppT P d e inf id n x kk
     | none=>none
   | none=>ajx P d e inf s x kk
def oG (P:Program) (d:D) (t:TypeId) (s x:V) (kk:V→D→Option R):Option R:=
 match P.underlying t with
 | some (.slice e)=>match P.info? e with
   | some inf=>dAppS P d e inf s x kk
   | none=>none
 | _=>none
structure Kept (P:Program) (d d':D):Prop where
 fr:∀i v,lookA d'.fr.l i=some (some v)→∃v',lookA d.fr.l i=some (some v')∧v'.ct d.tk=v.ct d'.tk∧(v'.inr→v.inr)
 lens:(∀id els e s,lookA d.tk id=some (els,e)→aG P e=some s→aL s (V.css els)=true)→∀id els e s,lookA d'.tk id=some (els,e)→aG P e=some s→aL s (V.css els)=true
 ds:d'.fr.ds=d.fr.ds
 rd:d'.fr.rd=d.fr.rd
 sh:d'.fr.sh=d.fr.sh
theorem Kept.of {P:Program}{d d':D}(h1:d'.fr=d.fr) (h2:d'.tk=d.tk):Kept P d d':=
 ⟨fun i v h=>⟨v,by rw [←h1];exact h,by rw [h2],fun h=>h⟩,fun h=>by rw [h2];exact h,by rw [h1],by rw [h1],by rw [h1]⟩
theorem Kept.refl {P:Program}{d:D}:Kept P d d:=Kept.of rfl rfl
theorem iA {id:Nat}:∀ {l:List (Nat×Option V)}{i:Nat}{v:V},lookA (aqD id l) i=some (some v)→lookA l i=some (some v)∧v≠.gl id:=by
 intro l
 induction l with
 | nil=>intro i v h;cases h
 | cons p l ih=>
   obtain⟨j,u⟩:=p
   intro i v h
   have keep:u≠some (.gl id)→lookA ((j,u)::aqD id l) i=some (some v)→lookA ((j,u)::l) i=some (some v)∧v≠.gl id:=by
    intro hu h
    simp only [lookA]at h ⊢
    cases hb:Nat.beq j i with
    | true=>
      rw [hb]at h
      simp only [cond_true,Oi]at h ⊢
      subst h
      exact⟨rfl,fun e=>hu (by rw [e])⟩
    | false=>
      rw [hb]at h
      simp only [cond_false]at h ⊢
      exact ih h
   unfold aqD at h
   split at h
   · rename_i q
     cases hb:Nat.beq q id with
     | false=>
       rw [hb]at h
       exact keep (fun e=>by cases e;rw [Nat.beq_refl]at hb;cases hb) h
     | true=>
       rw [hb]at h
       simp only [cond_true]at h
       have hq:q=id:=Nat.eq_of_beq_eq_true hb
       subst hq
       simp only [lookA]at h ⊢
       cases hj:Nat.beq j i with
       | true=>rw [hj]at h;cases h
       | false=>rw [hj]at h;exact ih h
   · rename_i hn
     exact keep (fun e=>absurd e (hn id)) h
end
end Go.Ev
namespace Go.Ev
open Go.RowKit
noncomputable section
variable {R:Type}{r:R}
theorem V.safe_ct {v:V}(h:v.safe=true) (tk):v.ct tk=v.c:=V.ct_plain (V.safe_ok h).1 tk
theorem rD {P:Program}{d:D}{e:TypeId}{sz bytes need:Nat}{cells:List V}{kk:V→D→Option R}(h:aqk P d e sz bytes cells need kk=some r) :
  aI P e sz bytes need=true∧(∀old new:List EVal,old++new=V.cs cells→eGrow P d.H e sz bytes old new need=some ((V.sl d.n 0 need (.slack 0)).c,(d.newRow ⟨cells,e,true⟩).H))∧kk (.sl d.n 0 need (.slack 0)) (d.newRow ⟨cells,e,true⟩)=some r:=by
 unfold aqk at h
 obtain⟨h1,h2⟩:=aA h
 refine⟨h1,fun old new ho=>?_,h2⟩
 simp only [eGrow,h1,if_true,V.c,D.newRow_H,DRow.o,ho];rfl
theorem oJ {sz:Nat}:∀ {n:Nat}{l:List V},l.length=n*sz→uT sz (eD sz n l)=true
 | 0,l,_=>rfl
 | n+1,l,h=>by
   rw [Nat.succ_mul]at h
   rw [eD,uT,List.all_cons]
   have h1:=oJ (sz:=sz) (n:=n) (l:=l.drop sz) (by rw [List.length_drop];omega)
   unfold uT at h1
   rw [h1,Bool.and_true,Nat.beq_eq,List.length_take];omega
theorem gS {P:Program}{e:TypeId}{inf:TypeInfo}(h:P.info? e=some inf):aG P e=some inf.size:=by
 unfold aG;rw [h];rfl
theorem xE {sh:List (List (Nat×V))}{P:Program}{sz:Nat}{d:D}{f:EFr}{h0:H}(F:Fits sh P sz d f h0) {t e:TypeId}{inf:TypeInfo}(hu:P.underlying t=some (.slice e)) (hinf:P.info? e=some inf) {s x:V}{kk:V→D→Option R}(h:ajx P d e inf s x kk=some r) :
  ∃w d',eAppend P d.H t (s.ct d.tk) x.c=some (w.ct d'.tk,d'.H)∧x.plain=true∧w.inr∧Kept P d d'∧kk w d'=some r:=by
 unfold ajx at h
 obtain⟨new,n,hsrc,hxp,h2⟩:=aqe h
 clear h
 have h:=h2
 clear h2
 have base:∀v:EVal,eAppend P d.H t v x.c=(match v with
    | .nilslice=>if n=0 then some (.nilslice,d.H)else eGrow P d.H e inf.size inf.bytes [] (V.cs new) n
    | .zsl=>eN P d.H e inf.size inf.bytes (V.cs new) n
    | .zslt id=>f6 P d.H e inf.size inf.bytes id (V.cs new) n
    | .slice id off len (.exact c)=>eAppendX P d.H e inf.size inf.bytes id off len c (V.cs new) n
    | .slice id 0 len (.slack 0)=>eAppendS P d.H e inf.size inf.bytes id len (V.cs new) n
    | .gsl id els=>eAppendG P d.H e inf.size inf.bytes id els (V.cs new) n
    | _=>none):=by
  intro v
  simp only [eAppend,hu,hinf,hsrc]
  rfl
 split at h
 ·
   rename_i id
   split at h
   rotate_left
   · cases h
   rename_i els e' htk
   have hlk:lookA d.tk id=some (els,e'):=by
    unfold D.tok at htk
    cases hb:Nat.blt id 250 with
    | false=>rw [hb]at htk;cases htk
    | true=>rw [hb]at htk;exact htk
   have hct:(V.gl id).ct d.tk=.gsl id (V.css els):=by simp only [V.ct,hlk]
   cases hn:Nat.beq n 0 with
   | true=>
     rw [hn]at h
     have hn0:n=0:=Nat.eq_of_beq_eq_true hn
     refine⟨.gl id,d,?_,hxp,trivial,Kept.refl,h⟩
     rw [base,hct]
     simp only [eAppendG,hn0,if_true]
   | false =>
     rw [hn]at h
     have hn0:n≠0:=fun e0=>by rw [e0]at hn;cases hn
     simp only [cond_false]at h
     split at h
     rotate_left
     · cases h
     rename_i new' hk
     obtain⟨hc,h⟩:=aA h
     obtain⟨hd,h⟩:=aA h
     simp only [Bool.and_eq_true,decide_eq_true_eq,Nat.beq_eq,Nat.blt_eq]at hc
     obtain⟨⟨⟨he,hl⟩,hs0⟩,hg⟩:=hc
     subst he
     rw [Nat.ble_eq]at hd
     have hlen:aL inf.size (V.css els)=true:=F.lens _ _ _ _ hlk (gS hinf)
     have hgr:aI P e' inf.size inf.bytes (els.length+n)=true:=by
      unfold aI at hg ⊢
      split at hg
      · rename_i z hz
        simp only [Bool.and_eq_true,Nat.ble_eq]at hg ⊢
        exact⟨hg.1,hd⟩
      · cases hg
     refine⟨.gl id,d.push id (els++eD inf.size n new',e'),?_,hxp,trivial,⟨fun i v hv=>?_,fun hL id2 els2 e2 s2 h2 hs2=>?_,rfl,rfl,rfl⟩,h⟩
     · rw [base,hct]
       simp only [eAppendG,if_neg hn0,D.tok_get htk,oO,(iC hk).1]
       rw [if_pos ⟨by rw [V.css_length],trivial,by rw [V.cs_length];exact hl,by omega,hlen,by rw [V.css_length];exact hgr⟩]
       have hlk2:lookA (d.push id (els++eD inf.size n new',e')).tk id=some (els++eD inf.size n new',e'):=by
        simp only [D.push,lookA,Nat.beq_refl,cond_true]
       simp only [V.ct,hlk2,D.push_H,V.css_append,j9,List.length_append,j8,V.css_length]
     · obtain⟨h1,h2⟩:=iA (show lookA (aqD id d.fr.l) i=some (some v)from hv)
       refine⟨v,h1,?_,fun h=>h⟩
       cases v with
       | gl j=>
         have hj:Nat.beq id j=false:=by
          cases hq:Nat.beq id j
          · rfl
          · exact absurd (by rw [Nat.eq_of_beq_eq_true hq]) h2
         simp only [V.ct,D.push,lookA,hj,cond_false]
       | _=>rfl
     · simp only [D.push,lookA]at h2
       cases hq:Nat.beq id id2 with
       | true=>
         rw [hq]at h2
         simp only [cond_true,Oi,Prod.mk.injEq]at h2
         obtain⟨rfl,rfl⟩:=h2
         rw [gS hinf]at hs2
         simp only [Oi]at hs2;subst hs2
         rw [aqJ]at hlen ⊢
         unfold uT at hlen ⊢
         rw [List.all_append,hlen,Bool.true_and]
         exact oJ hl
       | false=>
         rw [hq]at h2
         exact hL _ _ _ _ h2 hs2
 ·
   have hct:V.nils.ct d.tk=.nilslice:=by simp only [V.ct,V.c]
   cases hn:Nat.beq n 0 with
   | true=>
     rw [hn]at h
     have hn0:n=0:=Nat.eq_of_beq_eq_true hn
     refine⟨.nils,d,?_,hxp,trivial,Kept.refl,h⟩
     rw [base,hct]
     simp only [hn0,if_true]
   | false=>
     rw [hn]at h
     have hn0:n≠0:=fun e0=>by rw [e0]at hn;cases hn
     simp only [cond_false]at h
     obtain⟨h1,h2,h3⟩:=rD h
     refine⟨.sl d.n 0 n (.slack 0),d.newRow ⟨new,e,true⟩,?_,hxp,trivial,Kept.of rfl rfl,h3⟩
     rw [base,hct]
     simp only [if_neg hn0]
     rw [h2 [] (V.cs new) rfl];rfl
 ·
   rename_i id off len c
   obtain⟨hc,h⟩:=aA h
   rw [Nat.blt_eq]at hc
   split at h
   rotate_left
   · cases h
   rename_i rw' hr
   split at h
   rotate_left
   · cases h
   rename_i old hold
   obtain⟨h1,h2,h3⟩:=rD h
   refine⟨.sl d.n 0 (len+n) (.slack 0),d.newRow ⟨old++new,e,true⟩,?_,hxp,trivial,Kept.of rfl rfl,h3⟩
   rw [base]
   simp only [V.ct,V.c,eAppendX]
   rw [if_neg (by omega)]
   simp only [srcCells,D.row_get hr,DRow.o,kJ hold]
   rw [h2 (V.cs old) (V.cs new) (by rw [V.cs_append])];simp only [V.c]
 ·
   rename_i id len
   split at h
   rotate_left
   · cases h
   rename_i rw' hr
   obtain⟨hc,h⟩:=aA h
   simp only [Bool.and_eq_true,decide_eq_true_eq,Nat.ble_eq,Nat.blt_eq]at hc
   obtain⟨⟨⟨⟨⟨⟨c1,c2⟩,c3⟩,c4⟩,c5⟩,c6⟩,c7⟩:=hc
   obtain⟨h1,h2,h3⟩:=rD h
   refine⟨.sl (d.killRow id).n 0 (len+n) (.slack 0),(d.killRow id).newRow ⟨rw'.cells.take (len*inf.size)++new,e,true⟩,?_,hxp,trivial,⟨fun i v hv=>⟨v,hv,rfl,fun h=>h⟩,fun h=>h,rfl,rfl,rfl⟩,h3⟩
   rw [base]
   have hh:(D.killRow d id).H=d.H.kill id:=D.killRow_H
   have hnn:(D.killRow d id).n=d.H.n:=rfl
   have hk2:=h2 (V.cs (rw'.cells.take (len*inf.size))) (V.cs new) (by rw [V.cs_append])
   simp only [eGrow,h1,if_true,Oi,Prod.mk.injEq]at hk2
   simp only [V.ct,V.c,eAppendS,D.row_get hr,DRow.o,c1]
   simp only [eAppendS',c2,V.cs_length]
   rw [if_neg (by omega),if_pos ⟨trivial,by omega,c4⟩,if_neg (by omega),if_pos ⟨trivial,trivial,h1,aqB c7⟩]
   have ht:(V.cs rw'.cells).take (len*inf.size)=V.cs (rw'.cells.take (len*inf.size)):=by simp only [V.cs_map,List.map_take]
   rw [ht,←hk2.2,hh]
   rfl
 · cases h
theorem dAppK_ok {sh:List (List (Nat×V))}{P:Program}{sz:Nat}{d:D}{f:EFr}{h0:H}(F:Fits sh P sz d f h0) {t e:TypeId}{inf:TypeInfo}(hu:P.underlying t=some (.slice e)) (hinf:P.info? e=some inf) {id n:Nat}{x:V}(hx:dB inf.size x=some n) {kk:V→D→Option R}(h:dAppK P d e inf id n x kk=some r) :
  ∃w d',eAppend P d.H t ((V.gl id).ct d.tk) x.c=some (w.ct d'.tk,d'.H)∧x.plain=true∧w.inr∧Kept P d d'∧kk w d'=some r:=by
 obtain⟨rows,hc,hrl,hrows,hxp,_⟩:=iB hx
 obtain⟨hc2,hrn⟩:=aqQ hx
 rw [hc]at hc2
 simp only [EVal.lsl.injEq]at hc2
 have hls:aL inf.size rows=true:=by
  unfold aL
  rw [List.all_eq_true]
  intro q hq
  rw [(hrows q hq).1];simp
 have hkl:keepL rows.flatten=some rows.flatten:=cK fun q hq=>(hrows q hq).2
 have hfl:rows.flatten.length=n*inf.size:=by rw [qX fun q hq=>(hrows q hq).1,hrl]
 unfold dAppK at h
 split at h
 rotate_left
 · cases h
 rename_i els e' htk
 have hlk:lookA d.tk id=some (els,e'):=by
  unfold D.tok at htk
  cases hb:Nat.blt id 250 with
  | false=>rw [hb]at htk;cases htk
  | true=>rw [hb]at htk;exact htk
 have hct:(V.gl id).ct d.tk=.gsl id (V.css els):=by simp only [V.ct,hlk]
 have base:eAppend P d.H t ((V.gl id).ct d.tk) x.c=eAppendG P d.H e inf.size inf.bytes id (V.css els) rows.flatten n:=by
  rw [hct,hc]
  simp only [eAppend,hu,hinf,srcCells,hls,if_true,hrl]
 cases hn:Nat.beq n 0 with
 | true=>
   rw [hn]at h
   have hn0:n=0:=Nat.eq_of_beq_eq_true hn
   refine⟨.gl id,d,?_,hxp,trivial,Kept.refl,h⟩
   rw [base,hct]
   simp only [eAppendG,hn0,if_true]
 | false =>
   rw [hn]at h
   have hn0:n≠0:=fun e0=>by rw [e0]at hn;cases hn
   simp only [cond_false]at h
   obtain⟨hcc,h⟩:=aA h
   obtain⟨hd,h⟩:=aA h
   simp only [Bool.and_eq_true,decide_eq_true_eq,Nat.blt_eq]at hcc
   obtain⟨⟨he,hs0⟩,hg⟩:=hcc
   subst he
   rw [Nat.ble_eq]at hd
   have hlen:aL inf.size (V.css els)=true:=F.lens _ _ _ _ hlk (gS hinf)
   have hgr:aI P e' inf.size inf.bytes (els.length+n)=true:=by
    unfold aI at hg ⊢
    split at hg
    · rename_i z hz
      simp only [Bool.and_eq_true,Nat.ble_eq]at hg ⊢
      exact⟨hg.1,hd⟩
    · cases hg
   refine⟨.gl id,d.push id (els++mF x,e'),?_,hxp,trivial,⟨fun i v hv=>?_,fun hL id2 els2 e2 s2 h2 hs2=>?_,rfl,rfl,rfl⟩,h⟩
   · rw [base]
     simp only [eAppendG,if_neg hn0,D.tok_get htk,oO,hkl]
     rw [if_pos ⟨by rw [V.css_length],trivial,hfl,by omega,hlen,by rw [V.css_length];exact hgr⟩]
     have hlk2:lookA (d.push id (els++mF x,e')).tk id=some (els++mF x,e'):=by
      simp only [D.push,lookA,Nat.beq_refl,cond_true]
     have hch:chunk inf.size n rows.flatten=rows:=by rw [←hrl];exact cP fun q hq=>(hrows q hq).1
     simp only [V.ct,hlk2,D.push_H,V.css_append,hch,←hc2,List.length_append,hrn,V.css_length]
   · obtain⟨h1,h2⟩:=iA (show lookA (aqD id d.fr.l) i=some (some v)from hv)
     refine⟨v,h1,?_,fun h=>h⟩
     cases v with
     | gl j=>
       have hj:Nat.beq id j=false:=by
        cases hq:Nat.beq id j
        · rfl
        · exact absurd (by rw [Nat.eq_of_beq_eq_true hq]) h2
       simp only [V.ct,D.push,lookA,hj,cond_false]
     | _=>rfl
   · simp only [D.push,lookA]at h2
     cases hq:Nat.beq id id2 with
     | true=>
       rw [hq]at h2
       simp only [cond_true,Oi,Prod.mk.injEq]at h2
       obtain⟨rfl,rfl⟩:=h2
       rw [gS hinf]at hs2
       simp only [Oi]at hs2;subst hs2
       rw [V.css_append,←hc2]
       unfold aL at hlen hls ⊢
       rw [List.all_append,hlen,hls];rfl
     | false=>
       rw [hq]at h2
       exact hL _ _ _ _ h2 hs2
theorem dAppT_ok {sh:List (List (Nat×V))}{P:Program}{sz:Nat}{d:D}{f:EFr}{h0:H}(F:Fits sh P sz d f h0) {t e:TypeId}{inf:TypeInfo}(hu:P.underlying t=some (.slice e)) (hinf:P.info? e=some inf) {id n:Nat}{x:V}(hx:dB inf.size x=some n) {kk:V→D→Option R}(h:dAppT P d e inf id n x kk=some r) :
  ∃w d',eAppend P d.H t ((V.raw (.zslt id)).ct d.tk) x.c=some (w.ct d'.tk,d'.H)∧x.plain=true∧w.inr∧Kept P d d'∧kk w d'=some r:=by
 obtain⟨rows,hc,hrl,hrows,hxp,_⟩:=iB hx
 obtain⟨hc2,hrn⟩:=aqQ hx
 rw [hc]at hc2
 simp only [EVal.lsl.injEq]at hc2
 have hls:aL inf.size rows=true:=by
  unfold aL
  rw [List.all_eq_true]
  intro q hq
  rw [(hrows q hq).1];simp
 have hkl:keepL rows.flatten=some rows.flatten:=cK fun q hq=>(hrows q hq).2
 have hfl:rows.flatten.length=n*inf.size:=by rw [qX fun q hq=>(hrows q hq).1,hrl]
 unfold dAppT at h
 split at h
 rotate_left
 · cases h
 rename_i e' htk
 split at h
 · cases h
 rename_i h0
 obtain⟨hcc,h⟩:=aA h
 obtain⟨hd,h⟩:=aA h
 simp only [Bool.and_eq_true,Nat.blt_eq]at hcc
 obtain⟨hs0,hg⟩:=hcc
 rw [Nat.ble_eq]at hd
 have hgr:aI P e inf.size inf.bytes n=true:=by
  unfold aI at hg ⊢
  split at hg
  · rename_i z hz
    simp only [Bool.and_eq_true,Nat.ble_eq]at hg ⊢
    exact⟨hg.1,hd⟩
  · cases hg
 have hlk2:lookA ((d.push id ([],e)).push id (mF x,e)).tk id=some (mF x,e):=by
  simp only [D.push,lookA,Nat.beq_refl,cond_true]
 have hch:chunk inf.size n rows.flatten=rows:=by rw [←hrl];exact cP fun q hq=>(hrows q hq).1
 refine⟨.gl id,(d.push id ([],e)).push id (mF x,e),?_,hxp,trivial,⟨fun i v hv=>?_,fun hL id2 els2 e2 s2 h2 hs2=>?_,rfl,rfl,rfl⟩,h⟩
 · have hct:(V.raw (.zslt id)).ct d.tk=.zslt id:=by simp only [V.ct,V.c]
   rw [hct,hc]
   simp only [eAppend,hu,hinf,srcCells,hls,if_true,hrl,f6,D.tok_get htk,oO,List.length_nil,h0,hkl]
   rw [if_pos ⟨hfl,by omega,hgr⟩]
   simp only [V.ct,hlk2,D.push_H,hch,←hc2,hrn,List.length_nil]
 · obtain⟨h1,h2⟩:=iA (show lookA (aqD id (aqD id d.fr.l)) i=some (some v)from hv)
   obtain⟨h1,_⟩:=iA h1
   refine⟨v,h1,?_,fun h=>h⟩
   cases v with
   | gl j=>
     have hj:Nat.beq id j=false:=by
      cases hq:Nat.beq id j
      · rfl
      · exact absurd (by rw [Nat.eq_of_beq_eq_true hq]) h2
     simp only [V.ct,D.push,lookA,hj,cond_false]
   | _=>rfl
 · simp only [D.push,lookA]at h2
   cases hq:Nat.beq id id2 with
   | true=>
     rw [hq]at h2
     simp only [cond_true,Oi,Prod.mk.injEq]at h2
     obtain⟨rfl,rfl⟩:=h2
     rw [gS hinf]at hs2
     simp only [Oi]at hs2;subst hs2
     rw [←hc2];exact hls
   | false=>
     rw [hq]at h2
     exact hL _ _ _ _ h2 hs2
theorem yS {sh:List (List (Nat×V))}{P:Program}{sz:Nat}{d:D}{f:EFr}{h0:H}(F:Fits sh P sz d f h0) {t:TypeId}{s x:V}{kk:V→D→Option R}(h:oG P d t s x kk=some r) :
  ∃w d',eAppend P d.H t (s.ct d.tk) x.c=some (w.ct d'.tk,d'.H)∧x.plain=true∧w.inr∧Kept P d d'∧kk w d'=some r:=by
 unfold oG at h
 split at h
 rotate_left
 · cases h
 rename_i e hu
 split at h
 rotate_left
 · cases h
 rename_i inf hinf
 unfold dAppS at h
 split at h
 · rename_i id hs
   obtain rfl:s=.gl id:=by
    unfold isGl at hs
    split at hs
    · cases hs;rfl
    · cases hs
   split at h
   · rename_i n hx;exact dAppK_ok F hu hinf hx h
   · exact xE F hu hinf h
 · split at h
   · rename_i id hs
     obtain rfl:s=.raw (.zslt id):=by
      unfold isZt at hs
      split at hs
      · cases hs;rfl
      · cases hs
     split at h
     · rename_i n hx;exact dAppT_ok F hu hinf hx h
     · cases h
   · exact xE F hu hinf h
def dCopy (P:Program) (d:D) (t:TypeId) (a s:V) (kk:V→D→Option R):Option R:=
 match P.underlying t with
 | some (.slice e)=>match P.info? e with
   | some inf=>match a with
     | .sl id off len _=>match d.row id with
       | some r=>dSrc d inf.size s fun c n=>bif ones (c.take (Nat.min n len*inf.size))&&Nat.ble (off+(c.take (Nat.min n len*inf.size)).length) r.cells.length then
         kk (.int .i64 (Nat.min n len:Nat)) (d.setRow id { r with cells:=setV r.cells off (c.take (Nat.min n len*inf.size)) })else none
       | none=>none
     | _=>none
   | none=>none
 | _=>none
theorem ajs {P:Program}{d:D}{t:TypeId}{a s:V}{kk:V→D→Option R}(h:dCopy P d t a s kk=some r) :
  ∃(w:V) (d':D),yJ P d.H t a.c s.c=some (w.c,d'.H)∧a.plain=true∧s.plain=true∧w.safe=true∧d'.fr=d.fr∧d'.tk=d.tk∧kk w d'=some r:=by
 unfold dCopy at h
 split at h
 · rename_i e hu
   split at h
   · rename_i inf hinf
     split at h
     · rename_i id off len cap
       split at h
       · rename_i r' hr
         obtain⟨c,n,h1,h2,h3⟩:=aqe h
         obtain⟨h4,h5⟩:=aA h3
         simp only [Bool.and_eq_true,Nat.ble_eq]at h4
         refine⟨_,d.setRow id { r' with cells:=setV r'.cells off (c.take (Nat.min n len*inf.size)) },?_,rfl,h2,rfl,rfl,rfl,h5⟩
         simp only [V.c,yJ,hu,hinf,h1]
         have e:(V.cs c).take (Nat.min n len*inf.size)=V.cs (c.take (Nat.min n len*inf.size)):=by simp only [V.cs_map,List.map_take]
         rw [e]
         simp only [eStoreCells,D.row_get hr,DRow.o]
         rw [if_pos ⟨by rw [V.cs_length,V.cs_length];exact h4.2,Nat.zero_le _,aqB h4.1⟩,D.setRow_H]
         simp only [DRow.o,zP]
       · cases h
     · cases h
   · cases h
 · cases h
end
end Go.Ev
namespace Go.Ev
open Go.RowKit
noncomputable section
variable {R:Type}{r:R}
def D.newO (d:D) (o:DObj):D:={ d with n:=d.n+1,hp:=(d.n,some o)::d.hp }
theorem D.newO_H {d:D}{o:DObj}:(d.newO o).H=d.H.new o.o:=by
 unfold D.H D.newO;rw [mkH_new];rfl
def D.setO (d:D) (id:Nat) (o:DObj):D:={ d with hp:=(id,some o)::d.hp }
theorem D.setO_H {d:D}{id:Nat}{o:DObj}:(d.setO id o).H=d.H.put id o.o:=by
 unfold D.H D.setO;rw [mkH_put];rfl
def rB (P:Program) (d:D) (ty:TypeId):Option (V×D):=match P.underlying ty with
 | some (.map kt e)=>match P.underlying kt with
   | some .string=>match P.underlying e with
     | some .bool=>some (.raw (.map d.n),d.newO (.sset []))
     | _=>some (.raw (.map d.n),d.newO (.mp [] 0))
   | some (.int .i64)=>match P.underlying e with
     | some .bool=>some (.raw (.map d.n),d.newO (.iset []))
     | _=>some (.raw (.map d.n),d.newO (.mp [] 0))
   | _=>some (.raw (.map d.n),d.newO (.mp [] 0))
 | _=>none
theorem vE {P:Program}{d d':D}{ty:TypeId}{w:V}(h:rB P d ty=some (w,d')):w.c=.map d.H.n∧d'.H=d.H.new (.map [] 0)∧w.safe=true∧d'.fr=d.fr∧d'.tk=d.tk:=by
 unfold rB at h
 have main:∀o:DObj,o.o=.map [] 0→some ((V.raw (.map d.n),d.newO o):V×D)=some (w,d')→w.c=.map d.H.n∧d'.H=d.H.new (.map [] 0)∧w.safe=true∧d'.fr=d.fr∧d'.tk=d.tk:=by
  intro o ho h
  simp only [Oi,Prod.mk.injEq]at h
  obtain⟨rfl,rfl⟩:=h
  exact⟨by rw [V.c];rfl,by rw [D.newO_H,ho],rfl,rfl,rfl⟩
 split at h
 · split at h
   · split at h
     · exact main _ rfl h
     · exact main _ rfl h
   · split at h
     · exact main _ rfl h
     · exact main _ rfl h
   · exact main _ rfl h
 · cases h
def w9:V→V→Option Bool
 | .str a,.str b=>some (decide (a=b))
 | .int k a,.int k' b=>match decide (k=k')with
   | true=>some (a==b)
   | false=>none
 | .bool a,.bool b=>some (a==b)
 | _,_=>none
theorem tJ {a b:V}{q:Bool}(h:w9 a b=some q):oS a.c b.c=some q:=by
 unfold w9 at h
 split at h
 · simp only [Oi]at h;subst h;rw [V.c,V.c];rfl
 · split at h
   · rename_i hk
     simp only [decide_eq_true_eq]at hk
     subst hk
     simp only [Oi]at h;subst h;rw [V.c,V.c];simp [oS]
   · cases h
 · simp only [Oi]at h;subst h;rw [V.c,V.c];rfl
 · cases h
def xB (k:V):List (V×V×Nat)→(Option V→Option R)→Option R
 | [],kk=>kk none
 | (a,b,_)::l,kk=>match w9 k a with
   | some q=>cond q (kk (some b)) (xB k l kk)
   | none=>none
def mpE (es:List (V×V×Nat)):List (EVal×EVal×Nat):=es.map fun e=>(e.1.c,e.2.1.c,e.2.2)
theorem tL {k:V}:∀ {es:List (V×V×Nat)}{kk:Option V→Option R},xB k es kk=some r→∃o:Option V,fX k.c (mpE es)=some (o.map V.c)∧kk o=some r
 | [],kk,h=>⟨none,rfl,h⟩
 | (a, b,t)::l,kk,h=>by
   simp only [xB]at h
   split at h
   · rename_i q hq
     have e:=tJ hq
     cases q with
     | true=>exact⟨some b,by simp only [mpE,List.map_cons,fX,e,Option.map_some],h⟩
     | false=>
       obtain⟨o,h1,h2⟩:=tL (es:=l) h
       exact⟨o,by simp only [mpE,List.map_cons,fX,e];exact h1,h2⟩
   · cases h
def ajm (k v:V):List (V×V×Nat)→(Option (List (V×V×Nat))→Option R)→Option R
 | [],kk=>kk none
 | (a, b,t)::l,kk=>match w9 k a with
   | some q=>cond q (kk (some ((a,v,t)::l))) (ajm k v l fun o=>kk (match o with
     | some m=>some ((a,b,t)::m)
     | none=>none))
   | none=>none
theorem w0 {k v:V}:∀ {es:List (V×V×Nat)}{kk:Option (List (V×V×Nat))→Option R},ajm k v es kk=some r→∃o:Option (List (V×V×Nat)),rV k.c v.c (mpE es)=some (o.map mpE)∧kk o=some r
 | [],kk,h=>⟨none,rfl,h⟩
 | (a, b,t)::l,kk,h=>by
   simp only [ajm]at h
   split at h
   · rename_i q hq
     have e:=tJ hq
     cases q with
     | true=>exact⟨some ((a,v,t)::l),by simp only [mpE,List.map_cons,rV,e,Option.map_some],h⟩
     | false=>
       obtain⟨o,h1,h2⟩:=w0 (es:=l) h
       refine⟨_,?_,h2⟩
       have h1':rV k.c v.c (List.map (fun e=>(e.1.c,e.2.1.c,e.2.2)) l)=some (o.map mpE):=h1
       simp only [mpE,List.map_cons,rV,e,h1']
       cases o<;>rfl
   · cases h
theorem pM {k:List Nat}:∀ {l:List (List Nat)}{i:Nat},fX (.str k) (uE i l)=some (if k∈l then some (.bool true)else none)
 | [],i=>by simp [uE,fX]
 | a::l,i=>by
   simp only [uE,fX,oS]
   by_cases h:k=a
   · simp [h]
   · simp [h,pM (l:=l) (i:=i+1)]
theorem pN {k:Int}:∀ {l:List Int}{i:Nat},fX (.int .i64 k) (uF i l)=some (if k∈l then some (.bool true)else none)
 | [],i=>by simp [uF,fX]
 | a :: l,i=>by
   simp only [uF,fX,oS,if_true]
   by_cases h:k=a
   · simp [h]
   · have hb:(k==a)=false:=by simpa using h
     simp [h,hb,pN (l:=l) (i:=i+1)]
theorem rZ {k:List Nat}:∀ {l:List (List Nat)}{i:Nat},rV (.str k) (.bool true) (uE i l)=some (if k∈l then some (uE i l)else none)
 | [],i=>by simp [uE,rV]
 | a :: l,i=>by
   simp only [uE,rV,oS]
   by_cases h:k=a
   · simp [h]
   · simp only [h,decide_false,rZ (l:=l) (i:=i+1),List.mem_cons,false_or]
     by_cases h2:k∈l<;>simp [h2]
theorem sA {k:Int}:∀ {l:List Int}{i:Nat},rV (.int .i64 k) (.bool true) (uF i l)=some (if k∈l then some (uF i l)else none)
 | [],i=>by simp [uF,rV]
 | a :: l,i=>by
   simp only [uF,rV,oS,if_true]
   by_cases h:k=a
   · simp [h]
   · have hb:(k==a)=false:=by simpa using h
     simp only [hb,sA (l:=l) (i:=i+1),List.mem_cons,h,false_or]
     by_cases h2:k∈l<;>simp [h2]
theorem nA {k:List Nat}:∀ {l:List (List Nat)}{i:Nat},uE i (l++[k])=uE i l++[(.str k,.bool true,i+l.length)]
 | [],i=>by simp [uE]
 | a::l,i=>by simp only [List.cons_append,uE,nA (l:=l),List.length_cons];congr 5;omega
theorem nB {k:Int}:∀ {l:List Int}{i:Nat},uF i (l++[k])=uF i l++[(.int .i64 k,.bool true,i+l.length)]
 | [],i=>by simp [uF]
 | a::l,i=>by simp only [List.cons_append,uF,nB (l:=l),List.length_cons];congr 5;omega
def insK {α:Type} [DecidableEq α] (l:List α) (k:α):List α:=bif decide (k∈l)then l else l++[k]
def yG (P:Program) (kt:TypeId) (k:V):Bool:=match P.underlying kt with
 | some (.int j)=>match k with
   | .int j' _=>decide (j'=j)
   | _=>false
 | some .string=>match k with
   | .str _=>true
   | _=>false
 | some .bool=>match k with
   | .bool _=>true
   | _=>false
 | _=>false
theorem wW {P:Program}{kt:TypeId}{k:V}(h:yG P kt k=true):cJ (P.underlying kt) k.c=true:=by
 unfold yG at h
 unfold cJ
 split at h
 · rename_i j hu
   rw [hu]
   split at h
   · rw [V.c];exact h
   · cases h
 · rename_i hu
   rw [hu]
   split at h
   · rw [V.c]
   · cases h
 · rename_i hu
   rw [hu]
   split at h
   · rw [V.c]
   · cases h
 · cases h
def zeroB (P:Program) (e:TypeId):Option V:=match zF P e with
 | some z=>ofE z
 | none=>none
theorem ajW {P:Program}{e:TypeId}{z:V}(h:zeroB P e=some z):zF P e=some z.c:=by
 unfold zeroB at h
 split at h
 · rename_i z' hz
   rw [hz,(ofE_c h).1]
 · cases h
def okT (ok:Bool) (v:V) (q:Bool):V:=match ok with
 | true=>.tup [v,.bool q]
 | false=>v
theorem aj5 {ok:Bool}{v:V}{q:Bool}:(okT ok v q).c=if ok then EVal.tup [v.c,.bool q]else v.c:=by
 cases ok
 · rfl
 · simp only [okT,V.c,V.cs];rfl
def vF (P : Program) (d:D) (ty:TypeId) (x k:V) (ok:Bool) (kk:V→Option R):Option R:=match P.underlying ty with
 | some (.map kt e)=>bif yG P kt k then match zeroB P e with
   | some z => bif z.safe then match x with
     | .raw .nilmap=>kk (okT ok z false)
     | .raw (.map id)=>match d.obj id with
       | some (.sset ks)=>match k with
         | .str s=>match z with
           | .bool false=>kk (okT ok (.bool (decide (s∈ks))) (decide (s∈ks)))
           | _=>none
         | _=>none
       | some (.iset ks)=>match k with
         | .int .i64 s=>match z with
           | .bool false=>kk (okT ok (.bool (decide (s∈ks))) (decide (s∈ks)))
           | _=>none
         | _=>none
       | some (.mp es _)=>xB k es fun o=>match o with
         | some v=>bif v.safe then kk (okT ok v true)else none
         | none=>kk (okT ok z false)
       | _=>none
     | _=>none
     else none
   | none=>none
   else none
 | _=>none
theorem mQ {ok:Bool}{v:V}{q:Bool}(h:v.safe=true):(okT ok v q).safe=true:=by
 cases ok
 · exact h
 · rfl
theorem yQ {P:Program}{d:D}{ty:TypeId}{x k:V}{ok:Bool}{kk:V→Option R}(h:vF P d ty x k ok kk=some r) :
  ∃w:V,eU P d.H ty x.c k.c ok=some w.c∧w.safe=true∧x.plain=true∧k.plain=true∧kk w=some r:=by
 unfold vF at h
 split at h
 rotate_left
 · cases h
 rename_i kt e hu
 obtain⟨hf,h⟩:=aA h
 have hkf:=wW hf
 have hkp:k.plain=true:=by
  unfold yG at hf
  cases k with
  | gl i=>split at hf<;>cases hf
  | _=>rfl
 split at h
 rotate_left
 · cases h
 rename_i z hz
 have hz0:=ajW hz
 obtain⟨hzs,h⟩:=aA h
 have base:∀xv:EVal,eU P d.H ty xv k.c ok=(match xv with
   | .nilmap=>bP P ok e (some none)
   | .map id=>match d.H.get id with
     | some (.map es _)=>bP P ok e (fX k.c es)
     | _=>none
   | _=>none):=by
  intro xv
  unfold eU
  rw [hu]
  simp only [hkf,if_true]
  cases xv<;>rfl
 split at h
 · refine ⟨_,?_,mQ hzs,rfl,hkp,h⟩
   rw [V.c,base,aj5]
   simp only [bP,hz0]
 · rename_i id hold1 hold2
   have setCase:∀(q:Bool) (es:List (EVal×EVal×Nat)) (c:Nat),d.H.get id=some (.map es c)→fX k.c es=some (if q then some (.bool true)else none)→z=.bool false→kk (okT ok (.bool q) q)=some r →
     ∃w:V,eU P d.H ty (V.raw (.map id)).c k.c ok=some w.c∧w.safe=true∧(V.raw (.map id)).plain=true∧k.plain=true∧kk w=some r:=by
    intro q es c hg hfd hzf hk
    refine⟨_,?_,mQ (v:=.bool q) rfl,rfl,hkp,hk⟩
    rw [V.c,base,aj5]
    simp only [hg,hfd]
    rw [hzf,V.c]at hz0
    cases q with
    | true=>simp [bP,V.c]
    | false=>simp [bP,hz0,V.c]
   split at h
   · rename_i ks ho
     have hg:=D.obj_get ho
     simp only [DObj.o]at hg
     split at h
     · rename_i s
       split at h
       · refine setCase (decide (s∈ks)) _ _ hg ?_ rfl h
         rw [V.c,pM]
         by_cases hq:s∈ks<;>simp [hq]
       · cases h
     · cases h
   · rename_i ks ho
     have hg:=D.obj_get ho
     simp only [DObj.o]at hg
     split at h
     · rename_i s
       split at h
       · refine setCase (decide (s∈ks)) _ _ hg ?_ rfl h
         rw [V.c,pN]
         by_cases hq:s∈ks<;>simp [hq]
       · cases h
     · cases h
   · rename_i es c ho
     have hg:=D.obj_get ho
     simp only [DObj.o]at hg
     obtain⟨o,h1,h2⟩:=tL h
     cases o with
     | some v=>
       obtain⟨h3,h4⟩:=aA h2
       refine⟨_,?_,mQ h3,rfl,hkp,h4⟩
       rw [V.c,base,aj5]
       simp only [hg,show fX k.c (List.map (fun e=>(e.1.c,e.2.1.c,e.2.2)) es)=some (some v.c)from h1,bP]
     | none=>
       refine⟨_,?_,mQ hzs,rfl,hkp,h2⟩
       rw [V.c,base,aj5]
       simp only [hg,show fX k.c (List.map (fun e=>(e.1.c,e.2.1.c,e.2.2)) es)=some none from h1,bP,hz0]
   · cases h
 · cases h
def rA (P : Program) (d:D) (ty:TypeId) (x k v:V) (kk:D→Option R):Option R:=match P.underlying ty with
 | some (.map kt _)=>bif yG P kt k then match x with
   | .raw (.map id)=>match d.obj id with
     | some (.sset ks)=>match k with
       | .str s=>match v with
         | .bool true=>kk (d.setO id (.sset (insK ks s)))
         | _=>none
       | _=>none
     | some (.iset ks)=>match k with
       | .int .i64 s=>match v with
         | .bool true=>kk (d.setO id (.iset (insK ks s)))
         | _=>none
       | _=>none
     | some (.mp es c)=>bif v.plain then ajm k v es fun o=>match o with
       | some m=>kk (d.setO id (.mp m c))
       | none=>kk (d.setO id (.mp (es++[(k,v,c)]) (c+1)))
       else none
     | _=>none
   | _=>none
   else none
 | _=>none
theorem pS {P:Program}{d:D}{ty:TypeId}{x k v:V}{kk:D→Option R}(h:rA P d ty x k v kk=some r) :
  ∃d',i3 P d.H ty x.c k.c v.c=some d'.H∧x.plain=true∧k.plain=true∧v.plain=true∧d'.fr=d.fr∧d'.tk=d.tk∧kk d'=some r:=by
 unfold rA at h
 split at h
 rotate_left
 · cases h
 rename_i kt e hu
 obtain⟨hf,h⟩:=aA h
 have hkf:=wW hf
 have hkp:k.plain=true:=by
  unfold yG at hf
  cases k with
  | gl i=>split at hf<;>cases hf
  | _=>rfl
 split at h
 rotate_left
 · cases h
 rename_i id hold
 have base:i3 P d.H ty (V.raw (.map id)).c k.c v.c=(match d.H.get id with
    | some (.map es c)=>bY d.H id es c k.c v.c (rV k.c v.c es)
    | _=>none):=by
  rw [V.c]
  unfold i3
  rw [hu]
  simp only [hkf,if_true]
  rfl
 split at h
 · rename_i ks ho
   have hg:=D.obj_get ho
   simp only [DObj.o]at hg
   split at h
   · rename_i s
     split at h
     · refine ⟨d.setO id (.sset (insK ks s)),?_,rfl,rfl,rfl,rfl,rfl,h⟩
       rw [base]
       simp only [hg]
       rw [V.c,V.c,rZ,D.setO_H]
       unfold insK
       by_cases hq:s∈ks
       · simp [hq,bY,DObj.o]
       · simp [hq,bY,DObj.o,nA]
     · cases h
   · cases h
 · rename_i ks ho
   have hg:=D.obj_get ho
   simp only [DObj.o]at hg
   split at h
   · rename_i s
     split at h
     · refine ⟨d.setO id (.iset (insK ks s)),?_,rfl,rfl,rfl,rfl,rfl,h⟩
       rw [base]
       simp only [hg]
       rw [V.c,V.c,sA,D.setO_H]
       unfold insK
       by_cases hq:s∈ks
       · simp [hq,bY,DObj.o]
       · simp [hq,bY,DObj.o,nB]
     · cases h
   · cases h
 · rename_i es c ho
   have hg:=D.obj_get ho
   simp only [DObj.o]at hg
   obtain⟨hv,h⟩:=aA h
   obtain⟨o,h1,h2⟩:=w0 h
   have h1':rV k.c v.c (List.map (fun e=>(e.1.c,e.2.1.c,e.2.2)) es)=some (o.map mpE):=h1
   cases o with
   | some m=>
     refine⟨d.setO id (.mp m c),?_,rfl,hkp,hv,rfl,rfl,h2⟩
     rw [base]
     simp only [hg,h1',Option.map_some,bY,D.setO_H,DObj.o,mpE]
   | none=>
     refine⟨d.setO id (.mp (es++[(k,v,c)]) (c+1)),?_,rfl,hkp,hv,rfl,rfl,h2⟩
     rw [base]
     simp only [hg,h1',Option.map_none,bY,D.setO_H,DObj.o,List.map_append,List.map_cons,List.map_nil]
 · cases h
end
end Go.Ev
namespace Go.Ev
open Go.RowKit
noncomputable section
variable {R:Type}{r:R}
def V.arg (tk:List (Nat×(List (List V)×TypeId))):V→Option V
 | .gl id=>match lookA tk id with
   | some x=>some (.el x.1)
   | none=>none
 | .agg l=>match lY l with
   | some m=>some (.agg m)
   | none=>none
 | v=>v.keep1
def oY (tk:List (Nat×(List (List V)×TypeId))):List V→Option (List V)
 | []=>some []
 | v :: l=>match v.arg tk with
   | some a=>match oY tk l with
     | some b=>some (a::b)
     | none=>none
   | none=>none
theorem V.arg_ok {P:Program}{h0:H}{tk:List (Nat×(List (List V)×TypeId))}{v w:V}(h:v.arg tk=some w):argB P h0 (v.ct tk)=some w.c∧isLent (v.ct tk)=false:=by
 unfold V.arg at h
 split at h
 · split at h
   · rename_i id x hx
     simp only [Oi]at h;subst h
     simp only [V.ct,hx,V.c]
     exact⟨rfl,rfl⟩
   · cases h
 · split at h
   · rename_i l _ m hm
     simp only [Oi]at h;subst h
     simp only [V.ct,V.c]
     refine⟨?_,rfl⟩
     show(keepL (V.cs l)).map EVal.agg=_
     rw [(iC hm).1];rfl
   · cases h
 · unfold V.keep1 at h
   split at h<;>first|(cases h;done)|(simp only [Oi]at h;subst h;simp only [V.ct,V.c,V.css];exact⟨rfl,rfl⟩)|skip
   obtain⟨hc,h⟩:=aA h
   simp only [Oi]at h;subst h
   have:=qW (f:=‹FuncId›) hc
   simp only [V.ct]
   rw [V.c]at this ⊢
   exact⟨this,rfl⟩
theorem xL {P:Program}{h0:H}{tk:List (Nat×(List (List V)×TypeId))}:∀ {l m:List V},oY tk l=some m→argsB P h0 (V.cts tk l)=some (V.cs m)∧(V.cts tk l).any isLent=false
 | [],m,h=>by simp only [oY,Oi]at h;subst h;rw [V.cs];exact⟨rfl,rfl⟩
 | v :: l, m,h=>by
   simp only [oY]at h
   split at h
   · rename_i a ha
     split at h
     · rename_i b hb
       simp only [Oi]at h;subst h
       obtain⟨h1,h2⟩:=xL (P:=P) (h0:=h0) hb
       obtain⟨h3,h4⟩:=V.arg_ok (P:=P) (h0:=h0) ha
       refine⟨?_,?_⟩
       · show argsB P h0 (v.ct tk::V.cts tk l)=_
         simp only [argsB,h3,h1,V.cs]
       · show (v.ct tk::V.cts tk l).any isLent=_
         rw [List.any_cons,h4,h2];rfl
     · cases h
   · cases h
abbrev KD (R:Type):=FuncId→List V→(V→Option R)→Option R
def KDOK (K:aH) (kd:KD R):Prop:=∀fn vs k r,kd fn vs k=some r→∃w:V,K fn (V.cs vs)=some w.c∧w.safe=true∧k w=some r
def zC {R:Type}(P:Program) (d:D) (kk:V→D→Option R) (r:R):EVal→H→Prop:=fun v h'=>∃w d',v=w.ct d'.tk∧w.inr∧h'=d'.H∧Kept P d d'∧kk w d'=some r
def t5 (P:Program) (d:D):Prop:=∀id els e s,lookA d.tk id=some (els,e)→aG P e=some s→aL s (V.css els)=true
structure Cfg (R:Type) where
 P:Program
 g:G
 gD:Nat→Option (List V)
 T:TypeId→Option (List Nat)
 kd:KD R
 lz:Nat→Bool
 no:FuncId→Bool
 M:FuncId→List V→D→(V→D→Option R)→Option R
 Y:Nat→List V→D→(V→D→Option R)→Option R
structure CfgOK (C:Cfg R) (K:aH):Prop where
 gd:GD C.g C.gD
 eq:EqT C.P C.T
 kd:KDOK K C.kd
 no:∀f ts,C.no f=true→K f ts=none
 mo:∀fn vs d kk r,C.M fn vs d kk=some r→t5 C.P d→CallT C.P C.g K fn (V.cts d.tk vs) d.H (zC C.P d kk r)
 yo:∀id vs d kk r,C.Y id vs d kk=some r→t5 C.P d→RoundT C.P C.g K id (V.cts d.tk vs) d.H (zC C.P d kk r)
def bodyV (P:Program) (f:FuncId):Bool:=match P.funcs[f]? with
 | some fn=>!fn.body.isNone
 | none=>false
def xC (C:Cfg R) (d:D) (f:FuncId) (vs:List V) (kk:V→D→Option R):Option R:=
 bif bodyV C.P f then bif C.no f then C.M f vs d kk else match oY d.tk vs with
  | some as=>C.kd f as (fun w=>kk w d)
  | none=>none
 else none
def rI (C:Cfg R) (d:D) (b:Builtin) (ts:List TypeId) (vs:List V) (kk:V→D→Option R):Option R:=
 match b with
 | .len => match ts with
   | t :: _=>match vs with
     | [x]=>match dLen C.P d t x with
       | some w=>kk w d
       | none=>none
     | _=>none
   | _=>none
 | .append=>match ts with
   | t :: t2::_=>match vs with
     | [s,x]=>match C.P.underlying t2 with
       | some (.slice _)=>oG C.P d t s x kk
       | some .string=>oG C.P d t s x kk
       | _=>none
     | _=>none
   | _=>none
 | .copy=>match ts with
   | t::_=>match vs with
     | [a,s]=>dCopy C.P d t a s kk
     | _=>none
   | _=>none
 | .max=>match vs with
   | [.int k a,.int _ c]=>kk (.int k (bif decide (a<c)then c else a)) d
   | [.int k a,.int _ b,.int _ c]=>kk (.int k (bif decide ((bif decide (a<b)then b else a)<c)then c else(bif decide (a<b)then b else a))) d
   | _=>none
 | .min=>match vs with
   | [.int k a,.int _ c]=>kk (.int k (bif decide (c<a)then c else a)) d
   | _=>none
 | _=>none
def dCall (C:Cfg R) (d:D) (c:Callee) (ts:Array TypeId) (vs:List V) (kk:V→D→Option R):Option R:=
 match c with
 | .builtin b=>rI C d b ts.toList vs kk
 | .value x=>match dEv d x with
   | some (.raw (.func f []))=>xC C d f vs kk
   | some (.fn f l)=>bif lR l then xC C d f (vs++l) kk else none
   | some (.raw (.yieldf id))=>C.Y id vs d kk
   | _=>none
 | _=>none
def dOp (C : Cfg R) (d:D) (o:Oper) (kk:V→D→Option R):Option R:=
 match o.op with
 | .move x=>match dEv d x with
   | some v=>kk v d
   | none=>none
 | .assign x=>match dEv d x with
   | some v=>kk v d
   | none=>none
 | .pick c a b=>match dEv d c with
   | some (.bool q)=>cond q (match dEv d a with
     | some v=>kk v d
     | none=>none) (match dEv d b with
     | some v=>kk v d
     | none=>none)
   | _=>none
 | .alloc e=>match aqt C.P d e with
   | some x=>kk x.1 x.2
   | none=>none
 | .box e x=>match dEv d x with
   | some v=>match dBox d e v with
     | some y=>kk y.1 y.2
     | none=>none
   | none=>none
 | .build ty parts=>match pT d parts.toList with
   | some ps=>bif nH ps then match aqq C.P ty ps with
     | some v=>kk v d
     | none=>none
     else none
   | none=>none
 | .buildSlice ty len parts=>match pT d parts.toList with
   | some ps=>bif nH ps then match i8 C.P d ty len ps with
     | some x=>kk x.1 x.2
     | none=>none
     else none
   | none=>none
 | .load ty a=>match dEv d a with
   | some v=>match ajp C.P C.gD d ty v with
     | some w=>bif w.safe then kk w d else none
     | none=>none
   | none=>none
 | .store ty a x=>match dEv d a with
   | some v=>match dEv d x with
     | some y=>match aqd C.P d ty v y with
       | some d'=>kk (.tup []) d'
       | none=>none
     | none=>none
   | none=>none
 | .nilCheck x=>match dEv d x with
   | some (.ptr i o)=>kk (.ptr i o) d
   | some (.lptr i o)=>kk (.lptr i o) d
   | some (.raw (.gptr i o))=>kk (.raw (.gptr i o)) d
   | _=>none
 | .binOp op ty x y _=>match dEv d x with
   | some a=>match dEv d y with
     | some b=>dBin C.P C.T op ty a b (fun w=>kk w d)
     | none=>none
   | none=>none
 | .unOp op _ x=>match dEv d x with
   | some a=>match dUn op a with
     | some w=>kk w d
     | none=>none
   | none=>none
 | .convert s t x=>match dEv d x with
   | some a=>match dConv C.P s t a with
     | some w=>kk w d
     | none=>none
   | none=>none
 | .makeFunc (.func f) first captured=>bif Nat.beq first.size 0&&Nat.beq captured.size 0 then kk (.raw (.func f [])) d else bif Nat.beq first.size 0 then(match axj d captured.toList with
   | some l=>bif lR l then kk (.fn f l) d else none
   | none=>none)else none
 | .slice ty x lo hi none=>match dEv d x with
   | some a => match lo with
     | none=>match hi with
       | none=>i6 C.P ty a none none (fun w=>kk w d)
       | some y=>match dEv d y with
         | some b=>i6 C.P ty a none (some b) (fun w=>kk w d)
         | none=>none
     | some z=>match dEv d z with
       | some c=>match hi with
         | none=>i6 C.P ty a (some c) none (fun w=>kk w d)
         | some y=>match dEv d y with
           | some b=>i6 C.P ty a (some c) (some b) (fun w=>kk w d)
           | none=>none
       | none=>none
   | none=>none
 | .fieldAddr s x f=>match dEv d x with
   | some a=>match kY C.P s f a with
     | some w=>kk w d
     | none=>none
   | none=>none
 | .field s x f=>match dEv d x with
   | some a=>match aqo C.P s f a with
     | some w=>bif w.safe then kk w d else none
     | none=>none
   | none=>none
 | .indexAddr ty x i=>match dEv d x with
   | some a=>match dEv d i with
     | some b=>iL C.P (match o.dst with
       | some q=>C.lz q
       | none=>false) ty a b (fun w=>kk w d)
     | none=>none
   | none=>none
 | .index ty x i=>match dEv d x with
   | some a=>match dEv d i with
     | some b=>xA C.P ty a b (fun w=>kk w d)
     | none=>none
   | none=>none
 | .extract x i=>match dEv d x with
   | some a=>match rF i a with
     | some w=>kk w d
     | none=>none
   | none=>none
 | .range ty x=>match dEv d x with
   | some a=>match aqh C.P d ty a with
     | some y=>kk y.1 y.2
     | none=>none
   | none=>none
 | .next x true=>match dEv d x with
   | some a=>dNext d a kk
   | none=>none
 | .makeMap ty none=>match rB C.P d ty with
   | some y=>kk y.1 y.2
   | none=>none
 | .lookup ty x i ok=>match dEv d x with
   | some a=>match dEv d i with
     | some b=>vF C.P d ty a b ok (fun w=>kk w d)
     | none=>none
   | none=>none
 | .mapUpdate ty m k x=>match dEv d m with
   | some a=>match dEv d k with
     | some b=>match dEv d x with
       | some c=>rA C.P d ty a b c (fun d'=>kk (.tup []) d')
       | none=>none
     | none=>none
   | none=>none
 | .insert ty m k x=>match dEv d m with
   | some a=>match dEv d k with
     | some b=>match dEv d x with
       | some c=>rA C.P d ty a b c (fun d'=>kk (.tup []) d')
       | none=>none
     | none=>none
   | none=>none
 | .call c=>match axj d c.args.toList with
   | some vs=>dCall C d c.callee c.argTypes vs kk
   | none=>none
 | _=>none
def rM (o:Oper):Bool:=match o.op with
 | .call c=>match c.callee with
   | .value _=>true
   | _=>false
 | _=>false
def ax2 (C:Cfg R) (K:aH) (d:D) (f:EFr) (o:Oper) (kk:V→D→Option R) (r:R):Prop:=
 (∃w d',eOp C.P C.g d.H f.tmps o=some (.val (w.ct d'.tk) d'.H)∧w.inr∧Kept C.P d d'∧kk w d'=some r∧rM o=false) ∨
 (∃fn args w,eOp C.P C.g d.H f.tmps o=some (.enter fn args d.H)∧kcall C.P K d.H fn args=some w.c∧w.safe=true∧kk w d=some r∧rM o=true) ∨
 (∃fn vs,eOp C.P C.g d.H f.tmps o=some (.enter fn (V.cts d.tk vs) d.H)∧kcall C.P K d.H fn (V.cts d.tk vs)=none∧C.M fn vs d kk=some r) ∨
 (∃id vs,eOp C.P C.g d.H f.tmps o=some (.yield id (V.cts d.tk vs) d.H)∧C.Y id vs d kk=some r)
end
end Go.Ev
namespace Go.Ev
open Go.RowKit
noncomputable section
variable {R:Type}{r:R}
section
variable {C:Cfg R}{K:aH}{sz:Nat}{d:D}{f:EFr}{h:H}{sh:List (List (Nat×V))}
theorem lZ {o:Oper}{kk:V→D→Option R}{w:V}{d':D}(h1:eOp C.P C.g d.H f.tmps o=some (.val (w.ct d'.tk) d'.H)) (h2:w.inr) (h3:Kept C.P d d') (h4:kk w d'=some r) (hc:rM o=false:=by simp only [rM, *]):ax2 C K d f o kk r:=.inl ⟨w,d',h1,h2,h3,h4,hc⟩
theorem safe_ok {o:Oper}{kk:V→D→Option R}{w:V}{d':D}(h1:eOp C.P C.g d.H f.tmps o=some (.val w.c d'.H)) (h2:w.safe=true) (hf:d'.fr=d.fr) (ht:d'.tk=d.tk) (h4:kk w d'=some r) (hc:rM o=false:=by simp only [rM, *]):ax2 C K d f o kk r:=
 .inl ⟨w,d',by rw [V.safe_ct h2];exact h1,(V.safe_ok h2).2,Kept.of hf ht,h4,hc⟩
theorem tM (CO:CfgOK C K) {fn:FuncId}{vs:List V}{kk:V→D→Option R}(hk:xC C d fn vs kk=some r) :
  iS C.P d.H fn (V.cts d.tk vs)=some (.enter fn (V.cts d.tk vs) d.H)∧((∃w:V,kcall C.P K d.H fn (V.cts d.tk vs)=some w.c∧w.safe=true∧kk w d=some r)∨(kcall C.P K d.H fn (V.cts d.tk vs)=none∧C.M fn vs d kk=some r)):=by
 unfold xC at hk
 obtain⟨h1,hk⟩:=aA hk
 refine⟨?_,?_⟩
 · unfold bodyV at h1
   unfold iS
   split at h1
   · rename_i fn' hfn
     rw [hfn]
     simp only [Bool.not_eq_true']at h1
     simp only [h1];rfl
   · cases h1
 · cases hno:C.no fn with
   | true=>
     rw [hno]at hk
     refine .inr ⟨?_,hk⟩
     unfold kcall
     split
     · rw [CO.no _ _ hno]
     · rfl
   | false=>
     rw [hno]at hk
     simp only [cond_false]at hk
     split at hk
     rotate_left
     · cases hk
     rename_i as ha
     obtain⟨w,h2,h3,h4⟩:=CO.kd _ _ _ _ hk
     obtain⟨h5,h6⟩:=xL (P:=C.P) (h0:=d.H) ha
     refine .inl ⟨w,?_,h3,h4⟩
     unfold kcall
     rw [h5]
     simp only [h2,h6];rfl
theorem vH (F:Fits sh C.P sz d f h) {b:Builtin}{ts:List TypeId}{vs:List V}{kk:V→D→Option R}(hk:rI C d b ts vs kk=some r) :
  ∃w d',eBuiltin C.P d.H b ts (V.cts d.tk vs)=some (w.ct d'.tk,d'.H)∧w.inr∧Kept C.P d d'∧kk w d'=some r:=by
 unfold rI at hk
 split at hk
 · split at hk
   · split at hk
     · split at hk
       · rename_i t _ _ x _ w hw
         obtain⟨h1,h2⟩:=dLen_ok (h0:=d.H) hw
         refine⟨w,d,?_,(V.safe_ok h2).2,Kept.refl,hk⟩
         rw [V.safe_ct h2]
         simp only [V.cts,List.map_cons,List.map_nil,eBuiltin,h1,Option.map_some]
       · cases hk
     · cases hk
   · cases hk
 · split at hk
   · split at hk
     · rename_i t t2 _ _ s x
       have key:oG C.P d t s x kk=some r→∃w d',eAppend C.P d.H t (s.ct d.tk) (x.ct d.tk)=some (w.ct d'.tk,d'.H)∧w.inr∧Kept C.P d d'∧kk w d'=some r:=fun hk=>by
        obtain⟨w,d',h1,h2,h3,h4,h5⟩:=yS F hk
        exact⟨w,d',by rw [V.ct_plain h2];exact h1,h3,h4,h5⟩
       split at hk
       · rename_i e hu
         obtain⟨w,d',h1,h2⟩:=key hk
         exact⟨w,d',by simp only [V.cts,List.map_cons,List.map_nil,eBuiltin,hu];exact h1,h2⟩
       · rename_i hu
         obtain⟨w,d',h1,h2⟩:=key hk
         exact⟨w,d',by simp only [V.cts,List.map_cons,List.map_nil,eBuiltin,hu];exact h1,h2⟩
       · cases hk
     · cases hk
   · cases hk
 · split at hk
   · split at hk
     · rename_i t _ _ a s
       obtain⟨w,d',h1,h2,h3,h4,h5,h6,h7⟩:=ajs hk
       refine⟨w,d',?_,(V.safe_ok h4).2,Kept.of h5 h6,h7⟩
       rw [V.safe_ct h4]
       simp only [V.cts,List.map_cons,List.map_nil,eBuiltin,V.ct_plain h2,V.ct_plain h3,h1]
     · cases hk
   · cases hk
 · split at hk
   · rename_i k a k' c
     refine⟨.int k (bif decide (a<c)then c else a),d,?_,trivial,Kept.refl,hk⟩
     simp only [V.cts,List.map_cons,List.map_nil,V.ct,V.c,eBuiltin,Bool.cond_decide,gt_iff_lt]
   · rename_i k a k2 b k3 c
     refine⟨.int k (bif decide ((bif decide (a<b)then b else a)<c)then c else(bif decide (a<b)then b else a)),d,?_,trivial,Kept.refl,hk⟩
     simp only [V.cts,List.map_cons,List.map_nil,V.ct,V.c,eBuiltin,Bool.cond_decide,gt_iff_lt]
   · cases hk
 · split at hk
   · rename_i k a k' c
     refine⟨.int k (bif decide (c<a)then c else a),d,?_,trivial,Kept.refl,hk⟩
     simp only [V.cts,List.map_cons,List.map_nil,V.ct,V.c,eBuiltin,Bool.cond_decide]
   · cases hk
 · cases hk
theorem dOp_ok (F:Fits sh C.P sz d f h) (CO:CfgOK C K) {o:Oper}{kk:V→D→Option R}(hk:dOp C d o kk=some r):ax2 C K d f o kk r:=by
 unfold dOp at hk
 split at hk
 ·
   rename_i x hop
   split at hk
   · rename_i v hv
     exact lZ (by simp only [eOp,hop,aF F hv,mk,Option.map_some]) (f8 F hv) Kept.refl hk
   · cases hk
 ·
   rename_i x hop
   split at hk
   · rename_i v hv
     exact lZ (by simp only [eOp,hop,aF F hv,mk,Option.map_some]) (f8 F hv) Kept.refl hk
   · cases hk
 ·
   rename_i c a b hop
   split at hk
   · rename_i q hc
     have hc':=aF F hc
     cases q with
     | true=>
       simp only [cond_true]at hk
       split at hk
       · rename_i v hv
         exact lZ (by simp only [eOp,hop,hc',V.ct,V.c,ePick,aF F hv,mk,Option.map_some]) (f8 F hv) Kept.refl hk
       · cases hk
     | false=>
       simp only [cond_false]at hk
       split at hk
       · rename_i v hv
         exact lZ (by simp only [eOp,hop,hc',V.ct,V.c,ePick,aF F hv,mk,Option.map_some]) (f8 F hv) Kept.refl hk
       · cases hk
   · cases hk
 ·
   rename_i e hop
   split at hk
   · rename_i x hx
     obtain⟨h1,h2,h3,h4⟩:=aqs hx
     exact safe_ok (by simp only [eOp,hop,h1]) h2 h3 h4 hk
   · cases hk
 ·
   rename_i e x hop
   split at hk
   · rename_i v hv
     split at hk
     · rename_i y hy
       obtain⟨h1,h2,h3,h4,h5⟩:=dBox_ok hy
       exact safe_ok (by simp only [eOp,hop,aF F hv,V.ct_plain h2,h1]) h3 h4 h5 hk
     · cases hk
   · cases hk
 ·
   rename_i ty parts hop
   split at hk
   · rename_i ps hps
     obtain⟨hp,hk⟩:=aA hk
     split at hk
     · rename_i v hv
       obtain⟨h1,h2⟩:=aqp (h0:=d.H) hv
       exact safe_ok (by simp only [eOp,hop,oD F hps hp,h1]) h2 rfl rfl hk
     · cases hk
   · cases hk
 ·
   rename_i ty len parts hop
   split at hk
   · rename_i ps hps
     obtain⟨hp,hk⟩:=aA hk
     split at hk
     · rename_i v hv
       obtain⟨h1,h2,h3,h4⟩:=oW hv
       exact safe_ok (by simp only [eOp,hop,oD F hps hp,h1]) h2 h3 h4 hk
     · cases hk
   · cases hk
 ·
   rename_i ty a hop
   split at hk
   · rename_i v hv
     split at hk
     · rename_i w hw
       obtain⟨hs,hk⟩:=aA hk
       obtain⟨h1,h2⟩:=w8 CO.gd (f8 F hv) hw
       exact safe_ok (by simp only [eOp,hop,aF F hv,V.ct_plain h2,eLoadOp,h1,mk,Option.map_some]) hs rfl rfl hk
     · cases hk
   · cases hk
 ·
   rename_i ty a x hop
   split at hk
   · rename_i v hv
     split at hk
     · rename_i y hy
       split at hk
       · rename_i d' hd
         obtain⟨h1,h2,h3,h4,h5⟩:=aqc hd
         exact safe_ok (by simp only [eOp,hop,aF F hv,aF F hy,V.ct_plain h2,V.ct_plain h3,eStoreOp,h1,V.c,V.cs,undefE]) rfl h4 h5 hk
       · cases hk
     · cases hk
   · cases hk
 ·
   rename_i x hop
   split at hk
   · rename_i i o' hv
     exact safe_ok (by simp only [eOp,hop,aF F hv,V.ct,V.c,eNil]) rfl rfl rfl hk
   · rename_i i o' hv
     exact safe_ok (by simp only [eOp,hop,aF F hv,V.ct,V.c,eNil]) rfl rfl rfl hk
   · rename_i i o' hv
     exact safe_ok (by simp only [eOp,hop,aF F hv,V.ct,V.c,eNil]) rfl rfl rfl hk
   · cases hk
 ·
   rename_i op ty x y _ hop
   split at hk
   · rename_i a ha
     split at hk
     · rename_i b hb
       obtain⟨w,h1,h2,h3,h4,h5⟩:=dBin_ok CO.eq hk
       exact safe_ok (by simp only [eOp,hop,aF F ha,aF F hb,V.ct_plain h3,V.ct_plain h4,eBinOp,h1,mk,Option.map_some]) h2 rfl rfl h5
     · cases hk
   · cases hk
 ·
   rename_i op _ x hop
   split at hk
   · rename_i a ha
     split at hk
     · rename_i w hw
       obtain⟨h1,h2,h3⟩:=dUn_ok hw
       exact safe_ok (by simp only [eOp,hop,aF F ha,V.ct_plain h2,eUnOp,h1,mk,Option.map_some]) h3 rfl rfl hk
     · cases hk
   · cases hk
 ·
   rename_i s t x hop
   split at hk
   · rename_i a ha
     split at hk
     · rename_i w hw
       obtain⟨h1,h2,h3⟩:=ajt (h0:=d.H) hw
       exact safe_ok (by simp only [eOp,hop,aF F ha,V.ct_plain h2,eConvOp,h1,mk,Option.map_some]) h3 rfl rfl hk
     · cases hk
   · cases hk
 ·
   rename_i f' first captured hop
   cases hq:(Nat.beq first.size 0&&Nat.beq captured.size 0)with
   | true=>
     rw [hq]at hk
     simp only [Bool.and_eq_true,Nat.beq_eq]at hq
     have hc:captured.toList=[]:=by
      rw [←List.length_eq_zero_iff];simpa using hq.2
     exact safe_ok (by simp only [eOp,hop,hc,evs,bW,hq.1,if_true,V.c]) rfl rfl rfl hk
   | false=>
     rw [hq]at hk
     simp only [cond_false]at hk
     obtain⟨h1,hk⟩:=aA hk
     rw [Nat.beq_eq]at h1
     split at hk
     · rename_i l hl
       obtain⟨h2,hk⟩:=aA hk
       exact safe_ok (w:=.fn f' l) (by simp only [eOp,hop,oF F hl,j7 h2,bW,h1,if_true,V.c]) rfl rfl rfl hk
     · cases hk
 ·
   rename_i ty x lo hi hop
   split at hk
   · rename_i a ha
     have key:∀(l2 h2:Option V),(evOpt f.tmps lo=some (l2.map (V.ct d.tk)))→(evOpt f.tmps hi=some (h2.map (V.ct d.tk)))→i6 C.P ty a l2 h2 (fun w=>kk w d)=some r→ax2 C K d f o kk r:=by
      intro l2 h2 e1 e2 hk
      obtain⟨w,k1,k2,k3,k4,k5,k6⟩:=yN hk
      have m1:l2.map (V.ct d.tk)=l2.map V.c:=by cases l2 with|none=>rfl|some v=>simp only [Option.map_some,V.ct_plain (k3 _ rfl)]
      have m2:h2.map (V.ct d.tk)=h2.map V.c:=by cases h2 with|none=>rfl|some v=>simp only [Option.map_some,V.ct_plain (k4 _ rfl)]
      rw [m1]at e1
      rw [m2]at e2
      exact safe_ok (by simp only [eOp,hop,aF F ha,V.ct_plain k2,e1,e2,eSliceOp,k1,mk,Option.map_some]) k5 rfl rfl k6
     split at hk
     · split at hk
       · exact key none none rfl rfl hk
       · split at hk
         · rename_i b hb
           exact key none (some b) rfl (by simp only [evOpt,aF F hb,Option.map_some]) hk
         · cases hk
     · split at hk
       · rename_i c hc
         split at hk
         · exact key (some c) none (by simp only [evOpt,aF F hc,Option.map_some]) rfl hk
         · split at hk
           · rename_i b hb
             exact key (some c) (some b) (by simp only [evOpt,aF F hc,Option.map_some]) (by simp only [evOpt,aF F hb,Option.map_some]) hk
           · cases hk
       · cases hk
   · cases hk
 ·
   rename_i s x f' hop
   split at hk
   · rename_i a ha
     split at hk
     · rename_i w hw
       obtain⟨h1,h2,h3,h4⟩:=rE hw
       exact lZ (by simp only [eOp,hop,aF F ha,V.ct_plain h2,V.ct_plain h3,eFieldAddrOp,h1,mk,Option.map_some]) (h4 (f8 F ha)) Kept.refl hk
     · cases hk
   · cases hk
 ·
   rename_i s x f' hop
   split at hk
   · rename_i a ha
     split at hk
     · rename_i w hw
       obtain⟨hs,hk⟩:=aA hk
       obtain⟨h1,h2⟩:=aqn hw
       exact safe_ok (by simp only [eOp,hop,aF F ha,V.ct_plain h2,eFieldOp,h1,mk,Option.map_some]) hs rfl rfl hk
     · cases hk
   · cases hk
 ·
   rename_i ty x i hop
   split at hk
   · rename_i a ha
     split at hk
     · rename_i b hb
       obtain⟨w,h1,h2,h3,h4,h5,h6⟩:=rC (f8 F ha) hk
       exact lZ (by simp only [eOp,hop,aF F ha,aF F hb,V.ct_plain h2,V.ct_plain h3,V.ct_plain h4,eIndexAddrOp,h1,mk,Option.map_some]) h5 Kept.refl h6
     · cases hk
   · cases hk
 ·
   rename_i ty x i hop
   split at hk
   · rename_i a ha
     split at hk
     · rename_i b hb
       obtain⟨w,h1,h2,h3,h4,h5,h6⟩:=aqj hk
       exact lZ (by simp only [eOp,hop,aF F ha,aF F hb,V.ct_plain h2,V.ct_plain h3,V.ct_plain h4,eIndexOp,h1,mk,Option.map_some]) h5 Kept.refl h6
     · cases hk
   · cases hk
 ·
   rename_i x i hop
   split at hk
   · rename_i a ha
     split at hk
     · rename_i w hw
       obtain⟨h1,h2,h3⟩:=vG (h0:=d.H) hw
       exact safe_ok (by simp only [eOp,hop,aF F ha,V.ct_plain h2,h1]) h3 rfl rfl hk
     · cases hk
   · cases hk
 ·
   rename_i ty x hop
   split at hk
   · rename_i a ha
     split at hk
     · rename_i y hy
       obtain⟨h1,h2,h3,h4,h5⟩:=aqg hy
       exact safe_ok (by simp only [eOp,hop,aF F ha,V.ct_plain h2,h1]) h3 h4 h5 hk
     · cases hk
   · cases hk
 ·
   rename_i x hop
   split at hk
   · rename_i a ha
     obtain⟨w,d',h1,h2,h3,h4,h5,h6⟩:=ajo hk
     exact safe_ok (by simp only [eOp,hop,aF F ha,V.ct_plain h2,h1]) h3 h4 h5 h6
   · cases hk
 ·
   rename_i ty hop
   split at hk
   · rename_i y hy
     obtain⟨h1,h2,h3,h4,h5⟩:=vE hy
     refine safe_ok ?_ h3 h4 h5 hk
     simp only [eOp,hop,h1,h2]
   · cases hk
 ·
   rename_i ty x i ok hop
   split at hk
   · rename_i a ha
     split at hk
     · rename_i b hb
       obtain⟨w,h1,h2,h3,h4,h5⟩:=yQ hk
       refine safe_ok (d':=d) ?_ h2 rfl rfl h5
       have ea:=aF F ha
       have eb:=aF F hb
       rw [V.ct_plain h3]at ea
       rw [V.ct_plain h4]at eb
       simp only [eOp,hop,ea,eb,fG,h1,mk,Option.map_some]
     · cases hk
   · cases hk
 ·
   rename_i ty m k x hop
   split at hk
   · rename_i a ha
     split at hk
     · rename_i b hb
       split at hk
       · rename_i c hc
         obtain⟨d',h1,h2,h3,h4,h5,h6,h7⟩:=pS hk
         refine safe_ok (w:=.tup []) (d':=d') ?_ rfl h5 h6 h7
         have ea:=aF F ha
         have eb:=aF F hb
         have ec:=aF F hc
         rw [V.ct_plain h2]at ea
         rw [V.ct_plain h3]at eb
         rw [V.ct_plain h4]at ec
         simp only [eOp,hop,ea,eb,ec,cM,h1,undefE,V.c,V.cs]
       · cases hk
     · cases hk
   · cases hk
 ·
   rename_i ty m k x hop
   split at hk
   · rename_i a ha
     split at hk
     · rename_i b hb
       split at hk
       · rename_i c hc
         obtain⟨d',h1,h2,h3,h4,h5,h6,h7⟩:=pS hk
         refine safe_ok (w:=.tup []) (d':=d') ?_ rfl h5 h6 h7
         have ea:=aF F ha
         have eb:=aF F hb
         have ec:=aF F hc
         rw [V.ct_plain h2]at ea
         rw [V.ct_plain h3]at eb
         rw [V.ct_plain h4]at ec
         simp only [eOp,hop,ea,eb,ec,cM,h1,undefE,V.c,V.cs]
       · cases hk
     · cases hk
   · cases hk
 ·
   rename_i c hop
   split at hk
   · rename_i vs hvs
     have hev:=oF F hvs
     unfold dCall at hk
     split at hk
     · rename_i b hc
       obtain⟨w,d',h1,h2,h3,h4⟩:=vH F hk
       exact lZ (by simp only [eOp,hop,hev,hc,eCall,eCallB,h1]) h2 h3 h4
     · rename_i x hc
       split at hk
       · rename_i fn hx
         obtain⟨h1,⟨w,h2,h3,h4⟩ | ⟨h2,h3⟩⟩:=tM CO hk
         · refine .inr (.inl ⟨fn,_,w,?_,h2,h3,h4,by simp only [rM,hop,hc]⟩)
           simp only [eOp,hop,hev,hc,eCall,aF F hx,V.ct,V.c,eCallV,List.append_nil,h1]
         · refine .inr (.inr (.inl ⟨fn,_,?_,h2,h3⟩))
           simp only [eOp,hop,hev,hc,eCall,aF F hx,V.ct,V.c,eCallV,List.append_nil,h1]
       · rename_i fn l hx
         obtain⟨hl,hk⟩:=aA hk
         have e:V.cts d.tk (vs++l)=V.cts d.tk vs++V.cs l:=by rw [←j7 hl d.tk];simp only [V.cts,List.map_append]
         obtain⟨h1,⟨w,h2,h3,h4⟩ | ⟨h2,h3⟩⟩:=tM CO hk
         · refine .inr (.inl ⟨fn,_,w,?_,h2,h3,h4,by simp only [rM,hop,hc]⟩)
           simp only [eOp,hop,hev,hc,eCall,aF F hx,V.ct,V.c,eCallV,←e,h1]
         · refine .inr (.inr (.inl ⟨fn,_,?_,h2,h3⟩))
           simp only [eOp,hop,hev,hc,eCall,aF F hx,V.ct,V.c,eCallV,←e,h1]
       · rename_i id hx
         refine .inr (.inr (.inr ⟨id,vs,?_,hk⟩))
         simp only [eOp,hop,hev,hc,eCall,aF F hx,V.ct,V.c,eCallV]
       · cases hk
     · cases hk
   · cases hk
 · cases hk
end
end
end Go.Ev
namespace Go.Ev
open Go.RowKit
noncomputable section
variable {R:Type}{r:R}
def aqi (sz:Nat) (d:D) (dst:Option Tmp) (v:V) (kk:D→Option R):Option R:=
 match dst with
 | none=>kk d
 | some i=>bif Nat.blt i sz&&Nat.blt i 1000 then kk { d with fr:=⟨(i,some v)::d.fr.l,d.fr.ds,d.fr.rd,d.fr.sh⟩ }else none
def gC:V:=.tup []
def D.told (d:D) (t:Nat) (b:Bool):D:={ d with fr:=⟨(t,some (.bool b))::d.fr.l,d.fr.ds,d.fr.rd,d.fr.sh⟩ }
def tK (all:Array Oper) (d:D) (o:Oper) (A B:D→Option R):Option R:=
 match o.guard with
 | none=>A d
 | some (j,want)=>match all[j]? with
   | some q=>match q.dst with
     | some t=>match dEv d (.tmp t)with
       | some (.bool b)=>match want with
         | true=>cond b (A (d.told t true)) (B (d.told t false))
         | false=>cond b (B (d.told t true)) (A (d.told t false))
       | some (.tup _)=>B d
       | _=>none
     | none=>none
   | none=>none
section
variable {C:Cfg R}{K:aH}{sz:Nat}{d d':D}{f:EFr}{h h':H}{sh:List (List (Nat×V))}
theorem Fits.kept {P:Program}(F:Fits sh P sz d f h) (k:Kept P d d'):Fits sh P sz d' f d'.H:=
 ⟨F.sz,F.defers.trans k.ds.symm,F.round.trans k.rd.symm,F.has,fun i v hi hv=>by
  obtain⟨v',h1,h2,_⟩:=k.fr i v hv
  rw [←h2];exact F.tmps i v' hi h1,fun i v hv=>by
  obtain⟨v',h1,_,h3⟩:=k.fr i v hv
  exact h3 (F.inr i v' h1),k.sh.trans F.sh,rfl,k.lens F.lens⟩
theorem eV (F:Fits sh C.P sz d f h) {dst:Option Tmp}{v:V}{kk:D→Option R}(hv:v.inr) (hk:aqi sz d dst v kk=some r) :
  ∃d2,Fits sh C.P sz d2 (f.putd dst (v.ct d.tk)) h∧kk d2=some r:=by
 unfold aqi at hk
 split at hk
 · exact⟨d,F,hk⟩
 · rename_i i
   obtain⟨hc,hk⟩:=aA hk
   simp only [Bool.and_eq_true,Nat.blt_eq]at hc
   refine⟨_,?_,hk⟩
   have hp:f.putd (some i) (v.ct d.tk)=⟨f.sz,f.tmps.set i (some (v.ct d.tk)),f.defers,f.round⟩:=by
    unfold EFr.putd
    simp only
    rw [F.sz,show Nat.blt i sz=true by rw [Nat.blt_eq];exact hc.1];rfl
   rw [hp]
   refine⟨F.sz,F.defers,F.round,fun j hj=>(T.has_set _ _ _ _).2 (F.has j hj),fun j u hj hu=>?_,fun j u hu=>?_,F.sh,F.heap,F.lens⟩
   · show (f.tmps.set i (some (v.ct d.tk))).get j=_
     simp only [lookA]at hu
     cases hb:Nat.beq i j with
     | true=>
       rw [hb]at hu
       simp only [cond_true,Oi]at hu
       subst hu
       obtain rfl:=Nat.eq_of_beq_eq_true hb
       exact T.get_set_same _ _ _ (F.has _ hj)
     | false=>
       rw [hb]at hu
       rw [T.get_set_ne _ _ _ _ (fun e=>by rw [e,Nat.beq_refl]at hb;cases hb)]
       exact F.tmps j u hj hu
   · simp only [lookA]at hu
     cases hb:Nat.beq i j with
     | true=>
       rw [hb]at hu
       simp only [cond_true,Oi]at hu
       subst hu;exact hv
     | false=>
       rw [hb]at hu
       exact F.inr j u hu
theorem Fits.told {P:Program}{b:Bool}{t:Nat}(F:Fits sh P sz d f h) (hb:dEv d (.tmp t)=some (.bool b)):Fits sh P sz (d.told t b) f h:=by
 have e:=aF F hb
 simp only [ev,V.ct,V.c]at e
 refine⟨F.sz,F.defers,F.round,F.has,fun i v hi hv=>?_,fun i v hv=>?_,F.sh,F.heap,F.lens⟩
 · simp only [D.told,lookA]at hv
   cases hq:Nat.beq t i with
   | true=>
     rw [hq]at hv
     simp only [cond_true,Oi]at hv;subst hv
     obtain rfl:=Nat.eq_of_beq_eq_true hq
     simp only [V.ct,V.c];exact e
   | false=>rw [hq]at hv;exact F.tmps i v hi hv
 · simp only [D.told,lookA]at hv
   cases hq:Nat.beq t i with
   | true=>
     rw [hq]at hv
     simp only [cond_true,Oi]at hv;subst hv;trivial
   | false=>rw [hq]at hv;exact F.inr i v hv
theorem oE {P:Program} (F:Fits sh P sz d f h) {all:Array Oper}{o:Oper}{A B:D→Option R}(hk:tK all d o A B=some r) :
  ∃d2,Fits sh P sz d2 f h∧((wantedE all f.tmps o=some true∧A d2=some r)∨(wantedE all f.tmps o=some false∧B d2=some r)):=by
 unfold tK at hk
 unfold wantedE
 split at hk
 · rename_i hg
   rw [hg];exact⟨d,F,.inl ⟨rfl,hk⟩⟩
 · rename_i j want hg
   rw [hg]
   split at hk
   · rename_i q hq
     split at hk
     · rename_i t ht
       split at hk
       · rename_i b hb
         have hy:yieldedE all f.tmps j=some (some b):=by
          have:=aF F hb
          simp only [ev,V.ct,V.c]at this
          unfold yieldedE
          simp only [hq,ht,this]
         simp only [hy]
         have F2:=F.told hb
         split at hk
         · cases b with
           | true=>exact⟨_,F2,.inl ⟨rfl,hk⟩⟩
           | false=>exact⟨_,F2,.inr ⟨rfl,hk⟩⟩
         · cases b with
           | true=>exact⟨_,F2,.inr ⟨rfl,hk⟩⟩
           | false=>exact⟨_,F2,.inl ⟨rfl,hk⟩⟩
       · rename_i l hb
         have hy:yieldedE all f.tmps j=some none:=by
          have:=aF F hb
          simp only [ev,V.ct,V.c]at this
          unfold yieldedE
          simp only [hq,ht,this]
         simp only [hy]
         exact⟨d,F,.inr ⟨by rw [none_beq],hk⟩⟩
       · cases hk
     · cases hk
   · cases hk
theorem RoundT.mono {P:Program}{g:G}{K:aH}{id:Nat}{args:List EVal}{h:H}{k k':EVal→H→Prop}(H1:RoundT P g K id args h k) (hk:∀v h',k v h'→k' v h'):RoundT P g K id args h k':=by
 intro B0 W0 G hK l C vs ρ w c cs hid hvs R
 obtain⟨v,h',u,ρ',w',f0,tm,x,y,h1,rest⟩:=H1 B0 W0 G hK l C vs ρ w c cs hid hvs R
 exact⟨v,h',u,ρ',w',f0,tm,x,y,hk _ _ h1,rest⟩
theorem eM {P:Program}{g:G}{t:T EVal}{o:Oper}{x:EOut}(he:eOp P g h t o=some x):isNextM o.op=false:=by
 unfold isNextM
 split
 · rename_i it heq
   unfold eOp at he
   rw [heq]at he
   cases he
 · rfl
end
end
end Go.Ev
