import Derived.Test.YtgnnhpffealmmaaGreatDoorEvA
import GoSem.Step
import Derived.Lib.Bytealg
import Derived.Calls
import Derived.Orders
import Derived.Defers
set_option linter.unusedSimpArgs false
set_option linter.unusedVariables false
namespace Go.Ev
open Go.RowKit
theorem oR (fn:Func) (h:fn.name = "internal/bytealg.IndexByteString") (h2:fn.origin = ""):Extern.findNext fn=none∧Extern.find fn=some Extern.BytealgIndexByte.indexByte:=by
 unfold Extern.findNext Extern.find
 rw [h,h2]
 exact⟨rfl,rfl⟩
theorem yH (fn:Func) (h:fn.name = "internal/bytealg.CountString") (h2:fn.origin = ""):Extern.findNext fn=none∧Extern.find fn=some Extern.BytealgCount.count:=by
 unfold Extern.findNext Extern.find
 rw [h,h2]
 exact⟨rfl,rfl⟩
theorem tO (c:UInt8):∀l:List UInt8,tP c.toNat (l.map UInt8.toNat)=Lib.countByte l c
 | []=>rfl
 | b :: l=>by
   have ih:=tO c l
   unfold Lib.countByte at ih ⊢
   rw [List.map_cons,tP,List.count_cons,ih]
   by_cases hb:b=c
   · subst hb;simp
   · have h1:b.toNat≠c.toNat:=fun e=>hb (UInt8.toNat_inj.1 e)
     simp [h1,hb]
theorem qY (fn:Func) (h:fn.name = "internal/abi.NoEscape") (h2:fn.origin = ""):Extern.findNext fn=none∧Extern.find fn=some Extern.AbiNoEscape.same:=by
 unfold Extern.findNext Extern.find
 rw [h,h2]
 exact⟨rfl,rfl⟩
theorem u3 (fn:Func) (h:fn.name = "internal/bytealg.MakeNoZero") (h2:fn.origin = ""):Extern.findNext fn=none∧Extern.find fn=some (Extern.BytealgMakeNoZero.makeNoZero fn.params fn.resultTypes):=by
 unfold Extern.findNext Extern.find
 rw [h,h2]
 exact⟨rfl,rfl⟩
section
variable {P:Program}{B0:Nat}{W0:eF}{ρ:Loc}{h:H}{w:World}{g:G}
def OpOK (P:Program) (B0:Nat) (W0:eF) (ρ:Loc) (h:H) (w:World) (s:Sem Next):EOut→Prop
 | .val e h'=>∃w' ρ',ρ.le ρ'∧HRel P B0 W0 ρ' h' w'∧((∃v,s.run P w=.ok (.value v) w'∧VRel ρ' e v)∨(s.run P w=.ok .skip w'∧e=undefE))
 | .enter f args h'=>h'=h∧∃vs:Array Value,s.run P w=.ok (.enter f vs) w∧VsRel ρ args vs.toList
 | .yield id args h'=>h'=h∧∃(b C:Nat) (vs:Array Value),ρ id=some (b,C)∧s.run P w=(Instr.yield b vs).run P w∧VsRel ρ args vs.toList
theorem GoodV.op {s:Sem Value}{s':Sem Next}{e:EVal}{h':H}(hg:GoodV P B0 W0 ρ w s e h') (hs:s'=(do pure (.value (←s)))):OpOK P B0 W0 ρ h w s' (.val e h'):=by
 obtain⟨v,w',ρ',h1,h2,h3,h4⟩:=hg
 exact⟨w',ρ',h1,h2,.inl ⟨v,by rw [hs];simp [h3],h4⟩⟩
theorem mk_val {x:Option EVal}{out:EOut}(hm:mk x h=some out):∃e,out=.val e h∧x=some e:=by
 unfold mk at hm
 cases x with
 | none=>cases hm
 | some y=>simp only [Option.map_some,Oi]at hm;exact⟨y,hm.symm,rfl⟩
theorem gF (c:UInt8):∀(bs:List UInt8) (i:Nat) (p:Nat→Bool),(∀j,j<bs.length→p (i+j)=(bs.getD j 0==c)) →
  dU (bs.map UInt8.toNat) c.toNat i=(match(List.range' i bs.length).find? p with|some j=>(j:Int)|none=>-1)
 | [],i,p,_=>by simp [dU]
 | b :: bs,i,p,hp=>by
   simp only [List.map_cons,dU,List.length_cons,List.range'_succ,List.find?_cons]
   have h0:=hp 0 (by simp)
   simp only [Nat.add_zero,List.getD_cons_zero]at h0
   rw [h0]
   by_cases hb:b=c
   · subst hb;simp
   · have h1:b.toNat≠c.toNat:=fun e=>hb (UInt8.toNat_inj.1 e)
     have h2:(b==c)=false:=by simpa using hb
     rw [if_neg h1,h2,gF c bs (i+1) p (fun j hj=>by
      have:=hp (j+1) (by simpa using hj)
      rw [List.getD_cons_succ]at this
      rw [←this];congr 1;omega)]
def fL (P:Program):Prop:=∀(f:FuncId) (fn:Func),P.funcs[f]? = some fn→(fn.name == "runtime.NumGoroutine")=false
theorem l5 (R : HRel P B0 W0 ρ h w) {f:FuncId}{fn:Func}(hfn:P.funcs[f]? = some fn) (hb:fn.body.isNone=true) {args:List EVal}{vs:Array Value}(hr:VsRel ρ args vs.toList) {out:EOut}
  (he:i4 P fn args h=some out):OpOK P B0 W0 ρ h w (callFunc f vs) out:=by
 unfold i4 at he
 split at he
 · rename_i horg
   have hnum:∀s:String,fn.name=s→s ≠ "runtime.NumGoroutine"→(fn.name == "runtime.NumGoroutine")=false:=fun s h1 h2=>by rw [h1];simpa using h2
   have call:∀(impl:Array Value→Sem Value),(fn.name == "runtime.NumGoroutine")=false→Extern.findNext fn=none→Extern.find fn=some impl→(callFunc f vs).run P w=((do pure (.value (←impl vs)):Sem Next)).run P w:=by
    intro impl h1 h2 h3
    simp only [callFunc,Sem.run_bind,run_program,Result.andThen_ok,hfn,h1,Bool.false_eq_true,if_false,hb,if_true,h2,h3]
    rfl
   split at he
   · rename_i hname
     obtain⟨h1,h2⟩:=oR fn hname horg
     have hc:=call _ (hnum _ hname (by decide)) h1 h2
     unfold dV at he
     split at he
     · rename_i l c
       split at he
       · rename_i hcc
         simp only [Oi]at he;subst he
         obtain⟨v1,v2,hv,r1,r2⟩:∃v1 v2,vs=#[v1,v2]∧VRel ρ (.str l) v1∧VRel ρ (.int .u8 c) v2:=by
          generalize hvs:vs.toList=L at hr
          cases hr with|cons _ v1 _ _ a1 hs=>cases hs with|cons _ v2 _ _ a2 hs=>cases hs;exact⟨v1,v2,Array.ext' (by simpa using hvs),a1,a2⟩
         subst hv
         cases r1;cases r2
         rename_i s hs
         have hdef:Extern.BytealgIndexByte.indexByte #[.string s,.int .u8 c]=(do
           let b ←Extern.Bytes.bytesOf (.string s)
           let c ←Extern.Bytes.asByte (.int .u8 c)
           match(List.range b.size).find? fun i=>b[i]! == c with
           | some i=>pure (goInt i)
           | none=>pure (goInt (-1))):=rfl
         have hcn:(c.toNat.toUInt8).toNat=c.toNat:=UInt8.toNat_ofNat_of_lt' (by show c.toNat<256;omega)
         have hidx:=gF c.toNat.toUInt8 s.data.toList 0 (fun i=>s[i]! == c.toNat.toUInt8) (fun j hj=>by
          have hj':j<s.size:=by rw [m8];exact hj
          simp only [Nat.zero_add]
          rw [getElem!_pos s j hj',List.getD_eq_getElem?_getD,List.getElem?_eq_getElem hj]
          rfl)
         rw [hcn,hs,←List.range_eq_range']at hidx
         have:(Extern.BytealgIndexByte.indexByte #[.string s,.int .u8 c]).run P w=.ok (.int .i64 (dU l c.toNat 0)) w:=by
          rw [←m8]at hidx
          rw [hdef,hidx]
          simp only [Extern.Bytes.bytesOf,Extern.Bytes.asByte,Sem.run_bind,Sem.run_pure,Result.andThen_ok]
          cases(List.range s.size).find? (fun i=>s[i]! == c.toNat.toUInt8)<;>rfl
         exact⟨w,ρ,Loc.le_refl _,R,.inl ⟨_,by rw [hc];simp [this],.int _ _⟩⟩
       · cases he
     · cases he
   · split at he
     · rename_i hname
       obtain⟨h1,h2⟩:=qY fn hname horg
       have hc:=call _ (hnum _ hname (by decide)) h1 h2
       unfold fF at he
       split at he
       · rename_i x
         simp only [Oi]at he;subst he
         obtain⟨v1,hv,r1⟩:∃v1,vs=#[v1]∧VRel ρ x v1:=by
          generalize hvs:vs.toList=L at hr
          cases hr with|cons _ v1 _ _ a1 hs=>cases hs;exact⟨v1,Array.ext' (by simpa using hvs),a1⟩
         subst hv
         exact⟨w,ρ,Loc.le_refl _,R,.inl ⟨v1,by rw [hc];rfl,r1⟩⟩
       · cases he
     · split at he
       · rename_i hname
         obtain⟨h1,h2⟩:=u3 fn hname horg
         have hc:=call _ (hnum _ hname (by decide)) h1 h2
         unfold kT at he
         split at he
         · rename_i n
           split at he
           · rename_i t ht
             split at he
             · rename_i e hu
               split at he
               · rename_i hcond
                 simp only [Oi]at he;subst he
                 obtain⟨v1,hv,r1⟩:∃v1,vs=#[v1]∧VRel ρ (.int .i64 n) v1:=by
                  generalize hvs:vs.toList=L at hr
                  cases hr with|cons _ v1 _ _ a1 hs=>cases hs;exact⟨v1,Array.ext' (by simpa using hvs),a1⟩
                 subst hv
                 cases r1
                 obtain⟨hn0,hn1,hsz⟩:=hcond
                 have hdef:Extern.BytealgMakeNoZero.makeNoZero fn.params fn.resultTypes #[.int .i64 n]=(do
                   let some t:=fn.resultTypes[0]? | stuck "bytealg.MakeNoZero: no result type"
                   let .slice elem ←underlying t|stuck "bytealg.MakeNoZero: slice type expected"
                   if n<0||n>2 ^ 48 then runtimePanic (.error "makeslice: len out of range")
                   let cap ←choose (.appendCap n.toNat 0 elem)
                   askRoom cap
                   let bytes ←choose (.extern "internal/bytealg.MakeNoZero.bytes" 0)
                   let a ←newRow elem (Extern.BytealgMakeNoZero.digits cap bytes #[])
                   pure (.slice (some a) n.toNat cap)):=rfl
                 have hlim:(decide (n<0)||decide (n>2 ^ 48))=false:=by
                  simp only [Bool.or_eq_false_iff,decide_eq_false_iff_not]
                  have:(2 ^ 48:Int)=281474976710656:=by decide
                  constructor<;>omega
                 obtain⟨C,hC⟩:∃C,(Question.appendCap n.toNat 0 e).cut (w.tape w.drawn (Question.appendCap n.toNat 0 e))=C:=⟨_,rfl⟩
                 have hCn:n.toNat≤C:=by rw [←hC];exact Nat.le_add_right _ _
                 have hf1:(Question.appendCap n.toNat 0 e).forced=false:=rfl
                 have hch1:(choose (.appendCap n.toNat 0 e)).run P w=.ok C w.drew:=by
                  show(if(Question.appendCap n.toNat 0 e).forced then _ else _)=_
                  rw [hf1,if_neg (by simp),hC];rfl
                 obtain⟨by',hch2⟩:∃b,(choose (.extern "internal/bytealg.MakeNoZero.bytes" 0)).run P w.drew=.ok b w.drew.drew:=⟨_,rfl⟩
                 have hdig:∀(k t:Nat) (acc:Array Value),(Extern.BytealgMakeNoZero.digits k t acc).size=acc.size+k∧((∀v∈acc,∃m,v=.int .u8 m)→∀v∈Extern.BytealgMakeNoZero.digits k t acc,∃m,v=Value.int .u8 m):=by
                  intro k
                  induction k with
                  | zero=>intro t acc;exact⟨by simp [Extern.BytealgMakeNoZero.digits],fun h=>h⟩
                  | succ k ih=>
                    intro t acc
                    obtain⟨i1,i2⟩:=ih (t / 256) (acc.push (.int .u8 (Int.ofNat (t % 256))))
                    refine⟨by rw [Extern.BytealgMakeNoZero.digits,i1];simp;omega,fun h=>?_⟩
                    rw [Extern.BytealgMakeNoZero.digits]
                    refine i2 fun v hv=>?_
                    rcases Array.mem_push.1 hv with hv|rfl
                    · exact h v hv
                    · exact⟨_,rfl⟩
                 obtain⟨d1,d2⟩:=hdig C by' #[]
                 have d1':(Extern.BytealgMakeNoZero.digits C by' #[]).size=C:=by simpa using d1
                 have d2':=d2 (by simp)
                 have R2:HRel P B0 W0 ρ h w.drew.drew:=R.drew.drew
                 simp only [aG,Option.map_eq_some_iff]at hsz
                 obtain⟨i,hi1,hi2⟩:=hsz
                 refine⟨_,_,Loc.le_add R2.fresh,R2.new (.row (repl [.unk] n.toNat) e 0 0 true) (.cells (Extern.BytealgMakeNoZero.digits C by' #[]) e) C
                  ⟨_,rfl,?_,(fun h=>by cases h),fun _=>⟨i,hi1,by rw [d1',hi2,Nat.mul_one]⟩⟩,.inl ⟨.slice (some ⟨w.heap.size,0,none⟩) n.toNat C,?_,.slack _ _ _ _ C _ C (Loc.add_self _ _ _) (by omega) hCn⟩⟩
                 · refine .of_get (by simp [fO,d1'];omega) fun j e' v' he' hv'=>?_
                   have hj:j<n.toNat*1:=by have:=(List.getElem?_eq_some_iff.1 he').1;simpa [fO]using this
                   rw [qK _ _ _ (by simpa using hj)]at he'
                   have:e'=.unk:=by
                    simp only [List.length_singleton,Nat.mod_one,List.getElem?_cons_zero,Oi]at he';exact he'.symm
                   subst this
                   have hm:v'∈Extern.BytealgMakeNoZero.digits C by' #[]:=by
                    have:=List.mem_of_getElem? hv'
                    have:=List.mem_of_mem_take this
                    simpa using this
                   obtain⟨m,rfl⟩:=d2' v' hm
                   exact .unk _ _
                 · rw [hc]
                   simp only [Sem.run_bind,hdef,ht,run_underlying hu,Result.andThen_ok,hlim,Bool.false_eq_true,if_false,hch1,dZ,hch2,Sem.run_pure]
                   simp [newRow]
               · cases he
             · cases he
           · cases he
         · cases he
       · split at he
         · rename_i hname
           obtain⟨h1,h2⟩:=yH fn hname horg
           have hc:=call _ (hnum _ hname (by decide)) h1 h2
           unfold kV at he
           split at he
           · rename_i l c
             split at he
             · rename_i hcc
               simp only [Oi]at he;subst he
               obtain⟨v1,v2,hv,r1,r2⟩:∃v1 v2,vs=#[v1,v2]∧VRel ρ (.str l) v1∧VRel ρ (.int .u8 c) v2:=by
                generalize hvs:vs.toList=L at hr
                cases hr with|cons _ v1 _ _ a1 hs=>cases hs with|cons _ v2 _ _ a2 hs=>cases hs;exact⟨v1,v2,Array.ext' (by simpa using hvs),a1,a2⟩
               subst hv
               cases r1;cases r2
               rename_i s hs
               have hcn:(c.toNat.toUInt8).toNat=c.toNat:=UInt8.toNat_ofNat_of_lt' (by show c.toNat<256;omega)
               have he2:=tO c.toNat.toUInt8 s.data.toList
               rw [hcn,hs]at he2
               exact⟨w,ρ,Loc.le_refl _,R,.inl ⟨_,by rw [hc];simp only [Sem.run_bind,Lib.run_countString,Result.andThen_ok,Sem.run_pure];rw [←he2],.int _ _⟩⟩
             · cases he
           · cases he
         · cases he
 · cases he
theorem ajF {x:EVal}{vs:Array Value}(hr:VsRel ρ [x] vs.toList):∃v1,vs=#[v1]∧VRel ρ x v1:=by
 generalize hvs:vs.toList=L at hr
 cases hr with|cons _ v1 _ _ a1 hs=>cases hs;exact⟨v1,Array.ext' (by simpa using hvs),a1⟩
theorem ajE {x y:EVal}{vs:Array Value}(hr:VsRel ρ [x,y] vs.toList):∃v1 v2,vs=#[v1,v2]∧VRel ρ x v1∧VRel ρ y v2:=by
 generalize hvs:vs.toList=L at hr
 cases hr with|cons _ v1 _ _ a1 hs=>cases hs with|cons _ v2 _ _ a2 hs=>cases hs;exact⟨v1,v2,Array.ext' (by simpa using hvs),a1,a2⟩
theorem args3 {x y z:EVal}{vs:Array Value}(hr:VsRel ρ [x,y,z] vs.toList):∃v1 v2 v3,vs=#[v1,v2,v3]∧VRel ρ x v1∧VRel ρ y v2∧VRel ρ z v3:=by
 generalize hvs:vs.toList=L at hr
 cases hr with|cons _ v1 _ _ a1 hs=>cases hs with|cons _ v2 _ _ a2 hs=>cases hs with|cons _ v3 _ _ a3 hs=>cases hs;exact⟨v1,v2,v3,Array.ext' (by simpa using hvs),a1,a2,a3⟩
theorem rQ (R : HRel P B0 W0 ρ h w) {t t2 ty:TypeId}{rest:List TypeId}{k2:IntKind}(ht2:P.underlying t2=some (.int k2))
  {s x r:EVal} {u v:Value} {h':H} (hs:VRel ρ s u) (hx:VRel ρ x v) (he:iJ P h t s x=some (r,h')) :
  GoodV P B0 W0 ρ w (Builtin.append_ (t::t2::rest).toArray ty #[u,v]) r h':=by
 unfold iJ at he
 split at he
 · rename_i e ht
   split at he
   · rename_i i hi
     split at he
     · rename_i z hz
       split at he
       · split at he
         · rename_i k m
           split at he
           · rename_i hm
             obtain⟨hok,rfl,rfl⟩:=iH he
             cases hs
             cases hx
             obtain⟨z',hz',hzl,hb1,hb2⟩:=nU hok
             rw [hz]at hz';cases hz'
             obtain⟨uz,hur,hr,_⟩:=bL (ρ:=ρ) hz w.drew
             have husz:uz.cells.size=i.size:=by rw [←hzl,hr.length];simp
             have hmn:(m.toNat:Int)=m:=Int.toNat_of_nonneg (by omega)
             have hw:IntKind.i64.wrap m=m:=kG (by omega) hm.2
             have hpos:0<m.toNat:=by omega
             have hgs:=growslice_fits (bytes:=i.bytes) hpos (by rw [Nat.mul_comm];omega)
             generalize hq:(Question.appendCap m.toNat 0 e).cut (w.tape w.drawn (Question.appendCap m.toNat 0 e))=C
             have hC:m.toNat≤C:=by rw [←hq];exact Nat.le_add_right _ _
             have hf:(Question.appendCap m.toNat 0 e).forced=false:=rfl
             have hb0:i.bytes≠0:=by omega
             have h2:¬(281474976710656<Builtin.nextslicecap m.toNat 0*i.bytes):=by omega
             have h4:¬(281474976710656<m*(i.bytes:Int)):=by
              have h5:((i.bytes*m.toNat:Nat):Int)≤1000000:=by have:=hb2;omega
              rw [Int.natCast_mul,hmn,Int.mul_comm]at h5
              omega
             have h6:¬m<0:=by omega
             have h7:¬m≤0:=by omega
             have h8:m.toNat≠0:=by omega
             have h9:(asInt (Value.int k m)).run P w=.ok m w:=rfl
             have h10:¬(9223372036854775807:Int)<m:=by omega
             have h11:¬(9223372036854775807:Int)<max m 0:=by omega
             have R1:HRel P B0 W0 ρ h w.drew:=R.drew
             have hrr:=mN hr m.toNat
             have hzz:z.length=uz.cells.size:=by rw [hzl,husz]
             rw [hzz]at hrr
             have hrr':VsRel ρ (repl z m.toNat) (Builtin.zeroCells uz.cells m.toNat).toList:=hrr
             have hlen:(repl z m.toNat).length=(Builtin.zeroCells uz.cells m.toNat).toList.length:=hrr'.length
             refine⟨.slice (some ⟨w.heap.size,0,none⟩) m.toNat C,_,_,Loc.le_add R1.fresh,R1.new (.row ([]++repl z m.toNat) e 0 0 true) (.cells (Builtin.zeroCells uz.cells m.toNat++Builtin.zeroCells uz.cells (C-m.toNat)) e) C
              ⟨_,rfl,?_,(fun h=>by cases h),fun _=>⟨i,hi,?_⟩⟩,?_,?_⟩
             · rw [List.nil_append,hlen,Array.toList_append,List.take_left' rfl]
               exact hrr'.mono (Loc.le_add R1.fresh)
             · simp only [Array.size_append,iN,husz,←Nat.add_mul]
               congr 1;omega
             · have hz0:i.size=0→Builtin.zeroCells uz.cells m.toNat=#[]:=fun h0=>by apply Array.ext';simp [Builtin.zeroCells,husz,h0]
               by_cases hsz0:i.size=0
               · rw [hz0 hsz0]
                 simp only [Builtin.append_,List.getElem?_toArray,List.getElem?_cons_zero,List.getElem?_cons_succ,Sem.run_bind,run_underlying ht,run_underlying ht2,Result.andThen_ok,sizeOf,typeInfo,run_program,hi,Sem.run_pure]
                 simp [h9,h10,h11,hw,h2,h4,h6,h7,h8,hb0,hi,typeInfo,hf,hq,dZ,hur,newRow,hsz0,Builtin.firstCells]
               · simp only [Builtin.append_,List.getElem?_toArray,List.getElem?_cons_zero,List.getElem?_cons_succ,Sem.run_bind,run_underlying ht,run_underlying ht2,Result.andThen_ok,sizeOf,typeInfo,run_program,hi,Sem.run_pure]
                 simp [h9,h10,h11,hw,h2,h4,h6,h7,h8,hb0,hi,typeInfo,hf,hq,dZ,hur,newRow,hsz0,Builtin.firstCells]
                 intro hm0
                 exact absurd hm0 (Nat.mul_ne_zero h8 hsz0)
             · exact .slack _ _ _ _ C _ C (Loc.add_self _ _ _) (by omega) hC
           · cases he
         · cases he
       · cases he
     · cases he
   · cases he
 · cases he
theorem vK (R : HRel P B0 W0 ρ h w) {t ty:TypeId}{rest:List TypeId}{x r:EVal}{u:Value}{h':H}(hx:VRel ρ x u) (he:wX P h t x=some (r,h')) :
  GoodV P B0 W0 ρ w (Builtin.clear_ (t::rest).toArray ty #[u]) r h':=by
 unfold wX at he
 split at he
 · rename_i e ht
   split at he
   · rename_i z hz
     split at he
     · rename_i id off len c
       split at he
       · rename_i h0
         subst h0
         simp only [Oi,Prod.mk.injEq]at he
         obtain⟨rfl,rfl⟩:=he
         have key:∀(a:Option Addr) (c':Nat),u=.slice a 0 c'→GoodV P B0 W0 ρ w (Builtin.clear_ (t::rest).toArray ty #[u]) (.tup []) h:=by
          intro a c' hu
          subst hu
          refine GoodV.same R (v:=.tuple #[]) ?_ (.tup _ _ .nil)
          cases a<;>simp [Builtin.clear_,run_underlying ht]
         cases hx with
         | slice _ _ _ _ b C hb=>exact key _ _ rfl
         | slack _ _ _ _ c b C hb hc hn=>exact key _ _ rfl
       · rename_i h0
         split at he
         · rename_i h2 hst
           simp only [Oi,Prod.mk.injEq]at he
           obtain⟨rfl,rfl⟩:=he
           obtain⟨uz,hur,hr,_⟩:=bL (ρ:=ρ) hz w
           have hrr:=mN hr len
           have hl:z.length=uz.cells.size:=by rw [hr.length];simp
           rw [hl]at hrr
           have key:∀(b C c':Nat),ρ id=some (b,C)→u=.slice (some ⟨b,off,none⟩) len c'→GoodV P B0 W0 ρ w (Builtin.clear_ (t::rest).toArray ty #[u]) (.tup []) h2:=by
            intro b C c' hb hu
            subst hu
            obtain⟨w',hrun,R'⟩:=bB R hb hrr hst
            refine⟨.tuple #[],w',ρ,Loc.le_refl _,R',?_,.tup _ _ .nil⟩
            cases len with
            | zero=>exact absurd rfl h0
            | succ n=>
              have hrun2:(storeCells ⟨b,off,none⟩ (Builtin.zeroCells uz.cells (n+1)).toList).run P w=.ok () w':=hrun
              simp [Builtin.clear_,run_underlying ht,hur,hrun2]
           cases hx with
           | slice _ _ _ _ b C hb=>exact key _ _ _ hb rfl
           | slack _ _ _ _ c b C hb hc hn=>exact key _ _ _ hb rfl
         · cases he
     · cases he
   · cases he
 · cases he
theorem rO (R:HRel P B0 W0 ρ h w) {b:Builtin}{ts:Array TypeId}{ty:TypeId}{cs:Array Bool}{args:List EVal}{vs:Array Value}(hr:VsRel ρ args vs.toList) {e:EVal}{h':H}
  (he:eBuiltin P h b ts.toList args=some (e,h')):OpOK P B0 W0 ρ h w (builtin b ts ty cs vs) (.val e h'):=by
 unfold eBuiltin at he
 split at he
 · split at he
   · rename_i t t2 rest s x hts
     obtain⟨v1,v2,rfl,r1,r2⟩:=ajE hr
     have hts':ts=(t::t2::rest).toArray:=by rw [←hts]
     split at he
     · rename_i e2 h2
       exact(mB (ty:=ty) (rest:=rest) R (.inl ⟨e2,h2⟩) r1 r2 he).op (by rw [hts'];rfl)
     · rename_i h2
       exact(mB (ty:=ty) (rest:=rest) R (.inr h2) r1 r2 he).op (by rw [hts'];rfl)
     · rename_i k2 h2
       exact(rQ (ty:=ty) (rest:=rest) R h2 r1 r2 he).op (by rw [hts'];rfl)
     · cases he
   · cases he
 · split at he
   · rename_i t rest x hts
     obtain⟨v1,rfl,r1⟩:=ajF hr
     have hts':ts=(t::rest).toArray:=by rw [←hts]
     cases hl:eLen P h t x with
     | none=>rw [hl]at he;cases he
     | some y=>
       rw [hl]at he
       simp only [Option.map_some,Oi,Prod.mk.injEq]at he
       obtain⟨rfl,rfl⟩:=he
       obtain⟨u,h1,h2⟩:=aqK (ty:=ty) (rest:=rest) R r1 hl
       exact(GoodV.same R h1 h2).op (by rw [hts'];rfl)
   · cases he
 · split at he
   · rename_i t rest x hts
     obtain⟨v1,rfl,r1⟩:=ajF hr
     have hts':ts=(t::rest).toArray:=by rw [←hts]
     cases hl:eCap P t x with
     | none=>rw [hl]at he;cases he
     | some y=>
       rw [hl]at he
       simp only [Option.map_some,Oi,Prod.mk.injEq]at he
       obtain⟨rfl,rfl⟩:=he
       obtain⟨u,h1,h2⟩:=aqy (ty:=ty) (rest:=rest) r1 hl w
       exact(GoodV.same R h1 h2).op (by rw [hts'];rfl)
   · cases he
 · split at he
   · rename_i t rest d s hts
     obtain⟨v1,v2,rfl,r1,r2⟩:=ajE hr
     have hts':ts=(t::rest).toArray:=by rw [←hts]
     exact(yT (ty:=ty) (rest:=rest) R r1 r2 he).op (by rw [hts'];rfl)
   · cases he
 · split at he
   · obtain ⟨v1,v2,rfl,r1,r2⟩:=ajE hr
     cases r1;cases r2
     simp only [Oi,Prod.mk.injEq]at he
     obtain⟨rfl,rfl⟩:=he
     exact(GoodV.same R (s:=Builtin.max_ ts ty _) (by simp [Builtin.max_,Builtin.max2]) (.int _ _)).op rfl
   · obtain ⟨v1,v2,v3,rfl,r1,r2,r3⟩:=args3 hr
     cases r1;cases r2;cases r3
     simp only [Oi,Prod.mk.injEq]at he
     obtain⟨rfl,rfl⟩:=he
     exact(GoodV.same R (s:=Builtin.max_ ts ty _) (by simp [Builtin.max_,Builtin.max2]) (.int _ _)).op rfl
   · cases he
 · split at he
   · obtain ⟨v1,v2,rfl,r1,r2⟩:=ajE hr
     cases r1;cases r2
     simp only [Oi,Prod.mk.injEq]at he
     obtain⟨rfl,rfl⟩:=he
     exact(GoodV.same R (s:=Builtin.min_ ts ty _) (by simp [Builtin.min_,Builtin.min2]) (.int _ _)).op rfl
   · cases he
 · split at he
   · obtain ⟨v1,rfl,r1⟩:=ajF hr
     cases r1
     simp only [Oi,Prod.mk.injEq]at he
     obtain⟨rfl,rfl⟩:=he
     exact(GoodV.same R (s:=Builtin.unsafeSliceData_ ts ty _) rfl .nilp).op rfl
   · rename_i id off len c
     obtain⟨v1,rfl,r1⟩:=ajF hr
     split at he
     · cases he
     · rename_i h0
       simp only [Oi,Prod.mk.injEq]at he
       obtain⟨rfl,rfl⟩:=he
       have key:∀(b C c':Nat),ρ id=some (b,C)→c'≠0→v1=.slice (some ⟨b,off,none⟩) len c'→OpOK P B0 W0 ρ h w (builtin .unsafeSliceData ts ty cs #[v1]) (.val (.ptr id off) h):=by
        intro b C c' hb hc hv
        subst hv
        exact(GoodV.same R (s:=Builtin.unsafeSliceData_ ts ty _) (Lib.run_unsafeSliceData_row w ts ty _ _ _ hc) (.ptr _ _ _ _ hb)).op rfl
       cases r1 with
       | slice _ _ _ c b C hb=>exact key _ _ _ hb (fun e=>h0 (.inr (by rw [e]))) rfl
       | slack _ _ _ _ c b C hb hc hn=>exact key _ _ _ hb (by omega) rfl
   · cases he
 · split at he
   · rename_i t t2 p n hts
     obtain⟨v1,v2,rfl,r1,r2⟩:=ajE hr
     cases r2
     have hts':ts=#[t,t2]:=Array.ext' hts
     split at he
     · rename_i e2 hp
       exact(jF (it:=t2) (ty:=ty) R hp r1 he).op (by rw [hts'];rfl)
     · cases he
   · cases he
 · split at he
   · rename_i t rest x hts
     obtain⟨v1,rfl,r1⟩:=ajF hr
     have hts':ts=(t::rest).toArray:=by rw [←hts]
     exact(vK (ty:=ty) (rest:=rest) R r1 he).op (by rw [hts'];rfl)
   · cases he
 · cases he
theorem yZ (hng:fL P) (R:HRel P B0 W0 ρ h w) {t:T EVal}{E:Operand→Value}(hE:ax1 ρ t E) {c:Call}{ty:TypeId}{out:EOut}(he:eCall P h t c.callee c.argTypes (evs t c.args.toList)=some out) :
  OpOK P B0 W0 ρ h w (do let d ←resolve E c ty;invoke d.target d.args) out:=by
 unfold eCall at he
 split at he
 · cases he
 · rename_i args hargs
   have hr:VsRel ρ args (c.args.map E).toList:=by rw [Array.toList_map];exact n6 hE _ _ hargs
   split at he
   · rename_i b hcal
     unfold eCallB at he
     split at he
     · rename_i v h' hb
       simp only [Oi]at he;subst he
       have hres:(do let d ←resolve E c ty;invoke d.target d.args:Sem Next)=builtin b c.argTypes ty (c.args.map fun | .const _=>true|_=>false) (c.args.map E):=by
        simp only [resolve,hcal]
        rfl
       rw [hres]
       exact rO R hr hb
     · cases he
   · rename_i x hcal
     unfold eCallV at he
     split at he
     · rename_i f cs hx
       have hv:=hE _ _ hx
       generalize hEx:E x=vx at hv
       cases hv with
       | func _ _ vs hcs=>
       have hres:(do let d ←resolve E c ty;invoke d.target d.args:Sem Next)=callFunc f (c.args.map E++vs):=by
        simp only [resolve,hcal,hEx,Deferred.ofValue]
        simp [invoke]
       rw [hres]
       have hr2:VsRel ρ (args++cs) (c.args.map E++vs).toList:=by rw [Array.toList_append];exact hr.append hcs
       unfold iS at he
       split at he
       · rename_i fn hfn
         split at he
         · rename_i hb
           exact l5 R hfn hb hr2 he
         · rename_i hb
           simp only [Oi]at he;subst he
           refine⟨rfl,_,?_,hr2⟩
           have hb':fn.body.isNone=false:=by
            cases hq:fn.body.isNone with
            | true=>exact absurd hq hb
            | false=>rfl
           simp only [callFunc,Sem.run_bind,run_program,Result.andThen_ok,hfn,hng _ _ hfn,Bool.false_eq_true,if_false,hb',Sem.run_pure]
       · cases he
     · rename_i f fs hx
       have hv:=hE _ _ hx
       generalize hEx:E x=vx at hv
       cases hv with
       | bound _ _ vs hcs=>
       have hres:(do let d ←resolve E c ty;invoke d.target d.args:Sem Next)=callFunc f (vs++c.args.map E):=by
        simp only [resolve,hcal,hEx,Deferred.ofValue]
        simp [invoke]
       rw [hres]
       have hr2:VsRel ρ (fs++args) (vs++c.args.map E).toList:=by rw [Array.toList_append];exact hcs.append hr
       unfold iS at he
       split at he
       · rename_i fn hfn
         split at he
         · rename_i hb
           exact l5 R hfn hb hr2 he
         · rename_i hb
           simp only [Oi]at he;subst he
           refine⟨rfl,_,?_,hr2⟩
           have hb':fn.body.isNone=false:=by
            cases hq:fn.body.isNone with
            | true=>exact absurd hq hb
            | false=>rfl
           simp only [callFunc,Sem.run_bind,run_program,Result.andThen_ok,hfn,hng _ _ hfn,Bool.false_eq_true,if_false,hb',Sem.run_pure]
       · cases he
     · rename_i id hx
       have hv:=hE _ _ hx
       generalize hEx:E x=vx at hv
       cases hv with
       | yieldf _ b C hb=>
       simp only [Oi]at he;subst he
       refine⟨rfl,b,C,_,hb,?_,hr⟩
       simp [resolve,hcal,hEx,Deferred.ofValue,invoke]
     · cases he
   · cases he
theorem jX (R:HRel P B0 W0 ρ h w) {x:Option EVal}{out:EOut}(hm:mk x h=some out) {s:Sem Value}{s':Sem Next}(hs:∀e,x=some e→∃u,s.run P w=.ok u w∧VRel ρ e u) (hs':s'=(do pure (.value (←s)))) :
  OpOK P B0 W0 ρ h w s' out:=by
 obtain⟨e,rfl,he⟩:=mk_val hm
 obtain⟨u,h1,h2⟩:=hs e he
 exact(GoodV.same R h1 h2).op hs'
theorem bG (hng:fL P) (G:GRel B0 W0.w g) (R:HRel P B0 W0 ρ h w) {t:T EVal}{E:Operand→Value}(hE:ax1 ρ t E) {o:Oper}{out:EOut}(he:eOp P g h t o=some out) :
  OpOK P B0 W0 ρ h w (execOp E o) out:=by
 unfold eOp at he
 unfold execOp
 split at he
 · rename_i x hop
   rw [hop]
   exact jX R he (s:=pure (E x)) (fun e hx=>⟨_,rfl,hE _ _ hx⟩) rfl
 · rename_i x hop
   rw [hop]
   exact jX R he (s:=pure (E x)) (fun e hx=>⟨_,rfl,hE _ _ hx⟩) rfl
 · rename_i c a b hop
   rw [hop]
   unfold ePick at he
   split at he
   · rename_i hc
     have hv:=hE _ _ hc
     generalize hEc:E c=vc at hv
     cases hv
     refine jX R he (s:=pure (E a)) (fun e hx=>⟨_,rfl,hE _ _ hx⟩) ?_
     simp only [hEc];rfl
   · rename_i hc
     have hv:=hE _ _ hc
     generalize hEc:E c=vc at hv
     cases hv
     refine jX R he (s:=pure (E b)) (fun e hx=>⟨_,rfl,hE _ _ hx⟩) ?_
     simp only [hEc];rfl
   · cases he
 · rename_i e hop
   rw [hop]
   cases out with
   | val v h'=>exact(vS R he).op rfl
   | enter=>unfold eAlloc at he;split at he<;>simp at he
   | yield=>unfold eAlloc at he;split at he<;>simp at he
 · rename_i e x hop
   rw [hop]
   cases hx:ev t x with
   | none=>rw [hx]at he;cases he
   | some y=>
     rw [hx]at he
     cases out with
     | val v h'=>exact(ajA R (hE _ _ hx) he).op rfl
     | enter=>simp [eBox]at he
     | yield=>simp [eBox]at he
 · rename_i ty parts hop
   rw [hop]
   cases hx:evParts t parts.toList with
   | none=>rw [hx]at he;unfold eBuild at he;split at he<;>simp_all
   | some ps=>
     rw [hx]at he
     have hp:=iY hE _ _ hx
     rw [←Array.toList_map]at hp
     cases out with
     | val v h'=>exact(vP R hp he).op rfl
     | enter=>unfold eBuild eBuildS eBuildA at he;(repeat' split at he)<;>simp at he
     | yield=>unfold eBuild eBuildS eBuildA at he;(repeat' split at he)<;>simp at he
 · rename_i ty len parts hop
   rw [hop]
   cases hx:evParts t parts.toList with
   | none=>rw [hx]at he;unfold eBuildSlice at he;split at he<;>simp_all
   | some ps=>
     rw [hx]at he
     have hp:=iY hE _ _ hx
     rw [←Array.toList_map]at hp
     cases out with
     | val v h'=>exact(mH R hp he).op rfl
     | enter=>unfold eBuildSlice eBuildSlice' at he;(repeat' split at he)<;>simp at he
     | yield=>unfold eBuildSlice eBuildSlice' at he;(repeat' split at he)<;>simp at he
 · rename_i ty a hop
   rw [hop]
   cases hx:ev t a with
   | none=>rw [hx]at he;cases he
   | some x=>
     rw [hx]at he
     exact jX R he (fun e he=>pJ R G (hE _ _ hx) he) rfl
 · rename_i ty a x hop
   rw [hop]
   cases hx:ev t a with
   | none=>rw [hx]at he;cases he
   | some p=>
     cases hy:ev t x with
     | none=>rw [hx,hy]at he;cases he
     | some v=>
       rw [hx,hy]at he
       simp only [eStoreOp]at he
       split at he
       · rename_i h' hst
         simp only [Oi]at he;subst he
         obtain⟨w',h1,h2⟩:=uC R (hE _ _ hx) (hE _ _ hy) hst
         exact⟨w',ρ,Loc.le_refl _,h2,.inr ⟨by simp [h1],rfl⟩⟩
       · cases he
 · rename_i x hop
   rw [hop]
   unfold eNil at he
   split at he
   · rename_i i o' hx
     have hv:=hE _ _ hx
     generalize hEc:E x=vc at hv
     cases hv
     rename_i b C hb
     simp only [Oi]at he;subst he
     exact⟨w,ρ,Loc.le_refl _,R,.inl ⟨_,by simp only [hEc];rfl,.ptr _ _ _ _ hb⟩⟩
   · rename_i i o' hx
     have hv:=hE _ _ hx
     generalize hEc:E x=vc at hv
     cases hv
     simp only [Oi]at he;subst he
     exact⟨w,ρ,Loc.le_refl _,R,.inl ⟨_,by simp only [hEc];rfl,.gptr _ _⟩⟩
   · rename_i cs' o' hx
     have hv:=hE _ _ hx
     generalize hEc:E x=vc at hv
     cases hv with
     | lptr _ _ us b base pre rest hf hs hw ho=>
       simp only [Oi]at he;subst he
       exact⟨w,ρ,Loc.le_refl _,R,.inl ⟨_,by simp only [hEc];rfl,.lptr _ _ us b base pre rest hf hs hw ho⟩⟩
   · rename_i f c hx
     have hv:=hE _ _ hx
     generalize hEc:E x=vc at hv
     cases hv
     rename_i vs hvs
     simp only [Oi]at he;subst he
     exact⟨w,ρ,Loc.le_refl _,R,.inl ⟨_,by simp only [hEc];rfl,.func _ _ _ hvs⟩⟩
   · rename_i f c hx
     have hv:=hE _ _ hx
     generalize hEc:E x=vc at hv
     cases hv
     rename_i vs hvs
     simp only [Oi]at he;subst he
     exact⟨w,ρ,Loc.le_refl _,R,.inl ⟨_,by simp only [hEc];rfl,.bound _ _ _ hvs⟩⟩
   · cases he
 · rename_i op ty x y yt hop
   rw [hop]
   cases hx:ev t x with
   | none=>rw [hx]at he;cases he
   | some a=>
     cases hy:ev t y with
     | none=>rw [hx,hy]at he;cases he
     | some b=>
       rw [hx,hy]at he
       exact jX R he (fun e he=>ajB (hE _ _ hx) (hE _ _ hy) he w) rfl
 · rename_i op ty x hop
   rw [hop]
   cases hx:ev t x with
   | none=>rw [hx]at he;cases he
   | some a=>
     rw [hx]at he
     exact jX R he (fun e he=>ajZ (hE _ _ hx) he w) rfl
 · rename_i s d x hop
   rw [hop]
   cases hx:ev t x with
   | none=>rw [hx]at he;cases he
   | some a=>
     rw [hx]at he
     exact jX R he (fun e he=>rJ R (hE _ _ hx) he) rfl
 · rename_i f first captured hop
   rw [hop]
   cases hx:evs t captured.toList with
   | none=>rw [hx]at he;cases he
   | some cs=>
     rw [hx]at he
     simp only [bW]at he
     split at he
     · rename_i h0
       simp only [Oi]at he;subst he
       obtain rfl:first=#[]:=Array.eq_empty_of_size_eq_zero h0
       refine⟨w,ρ,Loc.le_refl _,R,.inl ⟨.func (.func f) #[] (captured.map E),by simp [Instr.makeFunc],.func _ _ _ ?_⟩⟩
       rw [Array.toList_map];exact n6 hE _ _ hx
     · split at he
       · rename_i fs hfs
         simp only [Oi]at he;subst he
         have hc:=n6 hE _ _ hx
         have h0:captured.map E=#[]:=by
          apply Array.ext'
          rw [Array.toList_map]
          generalize captured.toList.map E=L at hc
          cases hc;rfl
         refine⟨w,ρ,Loc.le_refl _,R,.inl ⟨.func (.func f) (first.map E) #[],by simp [Instr.makeFunc,h0],.bound _ _ _ ?_⟩⟩
         rw [Array.toList_map];exact n6 hE _ _ hfs
       · cases he
 · rename_i ty hop
   rw [hop]
   simp only [Oi]at he;subst he
   exact(R.newObj (s:=Instr.makeMap ty none) (o:=.map [] 0) (obj:=.map #[] 0) (v:=.map (some w.heap.size)) ⟨#[],rfl,.nil⟩ (by simp [Instr.makeMap]) (.map _ _ _ (Loc.add_self _ _ _))).op rfl
 · rename_i ty l c hop
   rw [hop]
   unfold eMakeSlice at he
   split at he
   · rename_i k a k' b hl hc
     have hv1:=hE _ _ hl
     have hv2:=hE _ _ hc
     cases out with
     | val v h'=>
       generalize hE1:E l=v1 at hv1
       generalize hE2:E c=v2 at hv2
       cases hv1;cases hv2
       have he':eMakeSlice P h ty (some (.int k a)) (some (.int k' b))=some (.val v h'):=he
       exact(nN R he').op (by simp only [hE1,hE2])
     | enter=>unfold eMakeSlice' at he;(repeat' split at he)<;>simp at he
     | yield=>unfold eMakeSlice' at he;(repeat' split at he)<;>simp at he
   · cases he
 · rename_i ty x lo hi hop
   rw [hop]
   unfold eSliceOp at he
   split at he
   · rename_i a l r hx hl hr
     exact jX R he (fun e he=>uD (hE _ _ hx) (tC hE hl) (tC hE hr) he w) rfl
   · cases he
 · rename_i s x f hop
   rw [hop]
   cases hx:ev t x with
   | none=>rw [hx]at he;cases he
   | some a=>
     rw [hx]at he
     exact jX R he (fun e he=>nZ (hE _ _ hx) he w) rfl
 · rename_i s x f hop
   rw [hop]
   cases hx:ev t x with
   | none=>rw [hx]at he;cases he
   | some a=>
     rw [hx]at he
     exact jX R he (fun e he=>u5 (hE _ _ hx) he w) rfl
 · rename_i ty x i hop
   rw [hop]
   cases hx:ev t x with
   | none=>rw [hx]at he;cases he
   | some a=>
     cases hy:ev t i with
     | none=>rw [hx,hy]at he;cases he
     | some b=>
       rw [hx,hy]at he
       exact jX R he (fun e he=>nS (hE _ _ hx) (hE _ _ hy) he w) rfl
 · rename_i ty x i hop
   rw [hop]
   cases hx:ev t x with
   | none=>rw [hx]at he;cases he
   | some a=>
     cases hy:ev t i with
     | none=>rw [hx,hy]at he;cases he
     | some b=>
       rw [hx,hy]at he
       exact jX R he (fun e he=>uY (hE _ _ hx) (hE _ _ hy) he w) rfl
 · rename_i ty x i ok hop
   rw [hop]
   cases hx:ev t x with
   | none=>rw [hx]at he;cases he
   | some a=>
     cases hy:ev t i with
     | none=>rw [hx,hy]at he;cases he
     | some b=>
       rw [hx,hy]at he
       exact jX R he (fun e he=>sS R (hE _ _ hx) (hE _ _ hy) he) rfl
 · rename_i ty m k x hop
   rw [hop]
   unfold cM at he
   split at he
   · rename_i a b c h1 h2 h3
     split at he
     · rename_i h' hst
       simp only [Oi]at he;subst he
       obtain⟨w',g1,g2⟩:=lH R (hE _ _ h1) (hE _ _ h2) (hE _ _ h3) hst
       exact⟨w',ρ,Loc.le_refl _,g2,.inr ⟨by simp [g1],rfl⟩⟩
     · cases he
   · cases he
 · rename_i ty m k x hop
   rw [hop]
   unfold cM at he
   split at he
   · rename_i a b c h1 h2 h3
     split at he
     · rename_i h' hst
       simp only [Oi]at he;subst he
       obtain⟨w',g1,g2⟩:=lH R (hE _ _ h1) (hE _ _ h2) (hE _ _ h3) hst
       exact⟨w',ρ,Loc.le_refl _,g2,.inr ⟨by simp [g1],rfl⟩⟩
     · cases he
   · cases he
 · rename_i ty x hop
   rw [hop]
   cases hx:ev t x with
   | none=>rw [hx]at he;cases he
   | some a=>
     rw [hx]at he
     cases out with
     | val v h'=>exact(uK R (hE _ _ hx) he).op rfl
     | enter=>unfold eRange eRangeMap at he;(repeat' split at he)<;>simp at he
     | yield=>unfold eRange eRangeMap at he;(repeat' split at he)<;>simp at he
 · rename_i x hop
   rw [hop]
   cases hx:ev t x with
   | none=>rw [hx]at he;cases he
   | some a=>
     rw [hx]at he
     cases out with
     | val v h'=>exact(u9 R (hE _ _ hx) he).op rfl
     | enter=>unfold l7 kU at he;(repeat' split at he)<;>simp at he
     | yield=>unfold l7 kU at he;(repeat' split at he)<;>simp at he
 · rename_i it hop
   rw [hop]
   cases hx:ev t it with
   | none=>rw [hx]at he;cases he
   | some a=>
     rw [hx]at he
     cases out with
     | val v h'=>exact(uP R o.type (hE _ _ hx) he).op rfl
     | enter=>unfold eNextS eNextS' at he;(repeat' split at he)<;>simp at he
     | yield=>unfold eNextS eNextS' at he;(repeat' split at he)<;>simp at he
 · rename_i x i hop
   rw [hop]
   cases hx:ev t x with
   | none=>rw [hx]at he;cases he
   | some a=>
     rw [hx]at he
     cases out with
     | val v h'=>
       obtain⟨hh,hu⟩:=q7 (P:=P) (hE _ _ hx) he w
       subst hh
       obtain⟨u,h1,h2⟩:=hu
       exact(GoodV.same R h1 h2).op rfl
     | enter=>unfold eExtract mk at he;split at he<;>simp at he
     | yield=>unfold eExtract mk at he;split at he<;>simp at he
 · rename_i c hop
   rw [hop]
   exact yZ hng R hE he
 · cases he
end
end Go.Ev
namespace Go.Ev
open Go.RowKit
def fr (b:Frame) (t:Array Value) (d:List Deferred) (todo:List Item):Frame:={ b with tmps:=t,defers:=d,todo:=todo,mode:=.run }
section
variable {P:Program}{b:Frame}{t:Array Value}{d:List Deferred}{k:List Item}{cs:List Frame}{w:World}
theorem zJ:step P (lone (fr b t d (.code .skip::k)) cs w)=.next (lone (fr b t d k) cs w):=step_lone_go (by simp [stepG,stepG.exec,fr])
theorem wC {l:Nat}:step P (lone (fr b t d (.code (.label l)::k)) cs w)=.next (lone (fr b t d k) cs w):=step_lone_go (by simp [stepG,stepG.exec,fr])
theorem pA {id:Nat}:step P (lone (fr b t d (.inBlock id::k)) cs w)=.next (lone (fr b t d k) cs w):=step_lone_go (by simp [stepG,stepG.exec,fr])
theorem o9 {c:Code}:step P (lone (fr b t d (.inScope c::k)) cs w)=.next (lone (fr b t d k) cs w):=step_lone_go (by simp [stepG,stepG.exec,fr])
theorem wB {x y:Code}:step P (lone (fr b t d (.code (.seq x y)::k)) cs w)=.next (lone (fr b t d (.code x::.code y::k)) cs w):=step_lone_go (by simp [stepG,stepG.exec,fr])
theorem jN {id:Nat}{c:Code}:step P (lone (fr b t d (.code (.block id c)::k)) cs w)=.next (lone (fr b t d (.code c::.inBlock id::k)) cs w):=step_lone_go (by simp [stepG,stepG.exec,fr])
theorem zL {c:Code}:step P (lone (fr b t d (.code (.loop c)::k)) cs w)=.next (lone (fr b t d (.code c::.inLoop c::k)) cs w):=step_lone_go (by simp [stepG,stepG.exec,fr])
theorem sF {c:Code}:step P (lone (fr b t d (.inLoop c::k)) cs w)=.next (lone (fr b t d (.code c::.inLoop c::k)) cs w):=step_lone_go (by simp [stepG,stepG.exec,fr])
theorem mL {c:Code}:step P (lone (fr b t d (.code (.scope c)::k)) cs w)=.next (lone (fr b t d (.code c::.inScope c::k)) cs w):=step_lone_go (by simp [stepG,stepG.exec,fr])
theorem zM {id:Nat}{k':List Item}(h:exitTo id k=some k'):step P (lone (fr b t d (.code (.exit id)::k)) cs w)=.next (lone (fr b t d k') cs w):=step_lone_go (by simp [stepG,stepG.exec,fr,h])
theorem m6 {id:Nat}{ops:Array Oper}:step P (lone (fr b t d (.code (.region id ops false)::k)) cs w)=.next (lone (fr b t d (.inRegion ops (List.range ops.size)::k)) cs w):=
 step_lone_go (by simp [stepG,stepG.exec,fr])
theorem cG {ops:Array Oper}:step P (lone (fr b t d (.inRegion ops []::k)) cs w)=.next (lone (fr b t d k) cs w):=step_lone_go (by simp [stepG,stepG.exec,fr])
theorem iP {id:Nat}{ops:Array Oper}:step P (lone (fr b t d (.code (.region id ops true)::k)) cs w) =
  .next (lone (fr b t d (.inRegion ops (Region.schedule (P.follows .mixedOrders) ops (w.tape w.drawn (.order b.fn id)))::k)) cs { w with drawn:=w.drawn+1 }):=
 step_lone_go (by simp [stepG,stepG.exec,fr,choose,Sem.run,Question.forced,Question.cut])
theorem u6 (todo:List Item):(fr b t d todo).eval=({ tmps:=t,defers:=d }:Act).eval:=by funext x;cases x<;>rfl
theorem qC {c:Operand}{x y:Code}{q:Bool}(h:({ tmps:=t,defers:=d }:Act).eval c=.bool q) :
  step P (lone (fr b t d (.code (.cond c x y)::k)) cs w)=.next (lone (fr b t d (.code (if q then x else y)::k)) cs w):=
 step_lone_go (by
  have h':(fr b t d (.code (.cond c x y)::k)).eval c=.bool q:=by rw [u6];exact h
  simp only [fr]at h'
  simp [stepG,stepG.exec,fr,h'])
theorem zK (hr:b.roundOf=none):step P (lone (fr b t d (.code .ret::k)) cs w)=.next (lone { fr b t d (.code .ret::k)with mode:=.returning } cs w):=
 step_lone_go (by simp [stepG,stepG.exec,fr,hr])
theorem zN (hr:b.roundOf=none):step P (lone (fr b t d []) cs w)=.next (lone { fr b t d []with mode:=.returning } cs w):=
 step_lone_go (by simp [stepG,stepG.exec,fr,hr])
def kF (t:Array Value) (dst:Option Tmp) (v:Value):Array Value:=match dst with|some i=>t.setIfInBounds i v|none=>t
theorem aT {ops:Array Oper}{i:Nat}{rest:List Nat}{o:Oper}(ho:ops[i]? = some o) (v:Value) :
  (fr b t d (.inRegion ops (i::rest)::k)).finish v=fr b (kF t o.dst v) d (.inRegion ops rest::k):=by
 cases h:o.dst<;>simp [Frame.finish,fr,ho,h,kF]
theorem hJ {ops:Array Oper}{i:Nat}{rest:List Nat}{o:Oper}(ho:ops[i]? = some o) (hw:Region.wanted o (yielded ops t)=false) :
  step P (lone (fr b t d (.inRegion ops (i::rest)::k)) cs w)=.next (lone (fr b (kF t o.dst undef) d (.inRegion ops rest::k)) cs w):=by
 rw [←aT ho]
 exact step_lone_go (by simp [stepG,stepG.exec,fr,ho,hw])
theorem jK {ops:Array Oper}{i:Nat}{rest:List Nat}{o:Oper}(ho:ops[i]? = some o) (hw:Region.wanted o (yielded ops t)=true) (hd:∀c,o.op≠.defer c) :
  stepG P true { frame:=fr b t d (.inRegion ops (i::rest)::k),callers:=cs,status:=.running,dying:=none } w =
   stepG.apply P true (fr b t d (.inRegion ops (i::rest)::k)) cs none (execOp ({ tmps:=t,defers:=d }:Act).eval o) w:=by
 have he:∀todo,(fr b t d todo).eval=({ tmps:=t,defers:=d }:Act).eval:=u6
 have h1:=he (.inRegion ops (i::rest)::k)
 simp only [fr]at h1
 have:stepG P true { frame:=fr b t d (.inRegion ops (i::rest)::k),callers:=cs,status:=.running,dying:=none } w =
   stepG.oper P true (fr b t d (.inRegion ops (i::rest)::k)) cs none w:=by
  simp [stepG,stepG.exec,fr,ho,hw]
 rw [this]
 unfold stepG.oper
 have ho':(fr b t d (.inRegion ops (i::rest)::k)).oper? = some o:=by simp [Frame.oper?,fr,ho]
 rw [ho']
 simp only
 split
 · rename_i c hop
   exact absurd hop (hd _)
 · rw [he]
theorem bX {ops:Array Oper}{i:Nat}{rest:List Nat}{o:Oper}(ho:ops[i]? = some o) (hw:Region.wanted o (yielded ops t)=true) (hd:∀c,o.op≠.defer c) {v:Value}{w':World}
  (hr:(execOp ({ tmps:=t,defers:=d }:Act).eval o).run P w=.ok (.value v) w') :
  step P (lone (fr b t d (.inRegion ops (i::rest)::k)) cs w)=.next (lone (fr b (kF t o.dst v) d (.inRegion ops rest::k)) cs w'):=by
 rw [←aT ho]
 exact step_lone_go (by rw [jK ho hw hd];simp [stepG.apply,hr])
theorem jL {ops:Array Oper}{i:Nat}{rest:List Nat}{o:Oper}(ho:ops[i]? = some o) (hw:Region.wanted o (yielded ops t)=true) (hd:∀c,o.op≠.defer c) {w':World}
  (hr:(execOp ({ tmps:=t,defers:=d }:Act).eval o).run P w=.ok .skip w') :
  step P (lone (fr b t d (.inRegion ops (i::rest)::k)) cs w)=.next (lone (fr b (kF t o.dst undef) d (.inRegion ops rest::k)) cs w'):=by
 rw [←aT ho]
 exact step_lone_go (by rw [jK ho hw hd];simp [stepG.apply,hr])
theorem fN {ops:Array Oper}{i:Nat}{rest:List Nat}{o:Oper}(ho:ops[i]? = some o) (hw:Region.wanted o (yielded ops t)=true) (hd:∀c,o.op≠.defer c) {f:FuncId}{args:Array Value}{w':World}
  (hr:(execOp ({ tmps:=t,defers:=d }:Act).eval o).run P w=.ok (.enter f args) w') :
  step P (lone (fr b t d (.inRegion ops (i::rest)::k)) cs w)=.next (lone (Frame.enter P f args .normal) (fr b t d (.inRegion ops (i::rest)::k)::cs) w'):=
 step_lone_go (by rw [jK ho hw hd];simp [stepG.apply,hr,fr])
theorem qB {ops:Array Oper}{i:Nat}{rest:List Nat}{o:Oper}(ho:ops[i]? = some o) (hw:Region.wanted o (yielded ops t)=true) (hd:∀c,o.op≠.defer c) {l:Nat}{f:FuncId}{tm:Array Value}{x y:Code}{w':World}
  (hr:(execOp ({ tmps:=t,defers:=d }:Act).eval o).run P w=.ok (.round l f tm x y) w') :
  step P (lone (fr b t d (.inRegion ops (i::rest)::k)) cs w)=.next (lone (Frame.round l f tm x y .normal) (fr b t d (.inRegion ops (i::rest)::k)::cs) w'):=
 step_lone_go (by rw [jK ho hw hd];simp [stepG.apply,hr])
theorem lM {l:Nat}{c:Frame}{v:Value}{w':World}(hr:b.roundOf=some l) (hk:b.kind=.normal) (he:(Instr.endRound l none).run P w=.ok v w') :
  step P (lone (fr b t d []) (c::cs) w)=.next (lone (c.finish v) cs w'):=
 step_lone_go (by simp [stepG,stepG.exec,fr,hr,he,doReturn,hk])
theorem lL {l:Nat}{c:Frame}{v:Value}{w':World}(hr:b.roundOf=some l) (hk:b.kind=.normal) (he:(Instr.endRound l (some .ret)).run P w=.ok v w') :
  step P (lone (fr b t d (.code .ret::k)) (c::cs) w)=.next (lone (c.finish v) cs w'):=
 step_lone_go (by simp [stepG,stepG.exec,fr,hr,he,doReturn,hk])
theorem jM {l id:Nat}{c:Frame}{v:Value}{w':World}(hr:b.roundOf=some l) (hk:b.kind=.normal) (hx:exitTo id k=none) (he:(Instr.endRound l (some (.exit id))).run P w=.ok v w') :
  step P (lone (fr b t d (.code (.exit id)::k)) (c::cs) w)=.next (lone (c.finish v) cs w'):=
 step_lone_go (by simp [stepG,stepG.exec,fr,hr,hx,he,doReturn,hk])
theorem jO {l:Nat}{w':World}(hr:b.roundOf=some l) (he:(Instr.beginRound l).run P w=.ok () w') :
  step P (lone (fr b t d (.beginRound::k)) cs w)=.next (lone (fr b t d k) cs w'):=
 step_lone_go (by simp [stepG,stepG.exec,stepG.apply,fr,hr,he,Frame.finish])
theorem gL {l:Nat}{jump:Option Code}{w':World}(he:(Instr.endLoop l).run P w=.ok jump w') :
  step P (lone (fr b t d (.endRangeFunc l::k)) cs w)=.next (lone (fr b t d ((jump.map Item.code).toList++k)) cs w'):=
 step_lone_go (by simp [stepG,stepG.exec,fr,he])
theorem lK (hng:fL P) {f:Operand}{ps:Array Tmp}{x y:Code}{l:Nat}{mark:List Deferred}{w1:World}{kf:FuncId}{caps:Array Value}(he:(Instr.enterLoop b.fn t ps x y b.roundOf).run P w=.ok (l,mark) w1)
  (hf:({ tmps:=t,defers:=d }:Act).eval f=.func (.func kf) #[] caps) {fn:Func} (hfn:P.funcs[kf]? = some fn) (hb:fn.body.isSome=true) :
  step P (lone (fr b t d (.code (.rangeFunc f ps x y)::k)) cs w) =
   .next (lone (Frame.enter P kf (#[.func (.yield l) #[] #[]]++caps) .normal) (fr b t (mark++d) (.inRangeFunc l::k)::cs) w1):=by
 have he':({ fn:=b.fn,tmps:=t,todo:=.inRangeFunc l::k,defers:=mark++d,mode:=.run,kind:=b.kind,roundOf:=b.roundOf }:Frame).eval f=.func (.func kf) #[] caps:=by
  have:=u6 (b:=b) (t:=t) (d:=mark++d) (.inRangeFunc l::k)
  have h2:(fr b t (mark++d) (.inRangeFunc l::k)).eval f=({ tmps:=t,defers:=d }:Act).eval f:=by rw [this];cases f<;>rfl
  rw [hf]at h2
  exact h2
 have hb':fn.body.isNone=false:=by cases hq:fn.body<;>simp_all
 have hcall:∀args,(callFunc kf args).run P w1=.ok (.enter kf args) w1:=fun args=>by
  simp only [callFunc,Sem.run_bind,run_program,Result.andThen_ok,hfn,hng _ _ hfn,Bool.false_eq_true,if_false,hb',Sem.run_pure]
 have hc:∀(q:Frame) (v:Value),q.eval (.const v)=v:=fun _ _=>rfl
 exact step_lone_go (by
  simp [stepG,stepG.exec,stepG.apply,fr,he,resolve,he',Deferred.ofValue,invoke,hcall,hc])
end
end Go.Ev
namespace Go.Ev
open Go.RowKit
section
variable {P:Program}{B0:Nat}{W0:eF}{g:G}
theorem MRel.filter {ρ:Loc}{es:List (EVal×EVal×Nat)}{ms:List MapEntry}(hm:MRel ρ es ms) (p:Nat→Bool):MRel ρ (es.filter fun e=>p e.2.2) (ms.filter fun m=>p m.born):=by
 induction hm with
 | nil=>exact .nil
 | cons k v t es m ms hk hv hb _ ih=>
   rw [List.filter_cons,List.filter_cons]
   simp only [hb]
   split
   · exact .cons _ _ _ _ _ _ hk hv hb ih
   · exact ih
theorem MRel.len {ρ:Loc}{es:List (EVal×EVal×Nat)}{ms:List MapEntry}(hm:MRel ρ es ms):es.length=ms.length:=by
 induction hm with
 | nil=>rfl
 | cons _ _ _ _ _ _ _ _ _ _ ih=>simp [ih]
theorem MRel.app {ρ:Loc}{es es':List (EVal×EVal×Nat)}{ms ms':List MapEntry}(hm:MRel ρ es ms) (h':MRel ρ es' ms'):MRel ρ (es++es') (ms++ms'):=by
 induction hm with
 | nil=>exact h'
 | cons _ _ _ _ _ _ hk hv hb _ ih=>exact .cons _ _ _ _ _ _ hk hv hb ih
theorem MRel.get {ρ:Loc}{es:List (EVal×EVal×Nat)}{ms:List MapEntry}(hm:MRel ρ es ms) (i:Nat) (m:MapEntry) (hi:ms[i]? = some m):∃e,es[i]? = some e∧VRel ρ e.1 m.key∧VRel ρ e.2.1 m.val∧m.born=e.2.2:=by
 induction hm generalizing i with
 | nil=>simp at hi
 | cons k v t es m' ms hk hv hb _ ih=>
   cases i with
   | zero=>simp at hi;subst hi;exact⟨_,rfl,hk,hv,hb⟩
   | succ i=>
     obtain⟨e,h1,h2⟩:=ih i (by simpa using hi)
     exact⟨e,by simpa using h1,h2⟩
theorem MRel.allB {ρ:Loc}{es:List (EVal×EVal×Nat)}{ms:List MapEntry}(hm:MRel ρ es ms) (p:Nat→Bool):(es.all fun e=>p e.2.2)=(ms.all fun m=>p m.born):=by
 induction hm with
 | nil=>rfl
 | cons k v t es m ms hk hv hb _ ih=>simp [hb,ih]
theorem fP {ρ : Loc} {h:H}{w:World}(R:HRel P B0 W0 ρ h w) {x:EVal}{v:Value}(ty:TypeId) (hx:VRel ρ x v) {l:List (EVal×H)}(he:uQ h x=some l) :
  ∃e h' u w',(e,h')∈l∧(Instr.next v false ty).run P w=.ok u w'∧VRel ρ e u∧HRel P B0 W0 ρ h' w':=by
 unfold uQ at he
 split at he
 · rename_i id
   cases hx
   rename_i b C hb
   split at he
   · rename_i m since seen stepped hg
     obtain⟨b',C',hb',bm,Cm,hbm,hw⟩:=R.objs _ _ hg
     rw [hb]at hb';cases hb'
     split at he
     · rename_i es clock hgm
       obtain⟨b2,C2,hb2,ms,hwm,hm⟩:=R.objs _ _ hgm
       rw [hbm]at hb2;cases hb2
       split at he
       · cases he
       · rename_i hcond
         simp only [Oi]at he;subst he
         have hgo:=bD (P:=P) hw (by intro c e f hh;cases hh)
         have hgom:=bD (P:=P) hwm (by intro c e f hh;cases hh)
         have hleft:=hm.filter (fun t=>!seen.contains t)
         have hold:=hleft.filter (fun t=>decide (t<since))
         have hnew:=hleft.filter (fun t=>decide (since≤t))
         have hcand:=hold.app hnew
         have hc1:(!seen.toArray.isEmpty&&!ms.isEmpty&&ms.all (fun e=>decide (e.born≥stepped)))=false:=by
          have e1:seen.toArray.isEmpty=seen.isEmpty:=by simp
          have hl:es.length=ms.size:=by simpa using hm.len
          have e2:ms.isEmpty=es.isEmpty:=by
           cases hq:es with
           | nil=>
             have:ms.size=0:=by rw [←hl,hq];rfl
             simp [Array.eq_empty_of_size_eq_zero this]
           | cons a as=>
             have:ms.size≠0:=by rw [←hl,hq];simp
             simp [Array.isEmpty,this]
          have e3:ms.all (fun e=>decide (e.born≥stepped))=es.all (fun e=>decide (stepped≤e.2.2)):=by
           rw [hm.allB (fun t=>decide (stepped≤t)),←Array.all_toList]
          rw [e1,e2,e3]
          simpa using hcond
         let leftA:=ms.filter fun e=>!seen.toArray.contains e.born
         let oldA:=leftA.filter (·.born<since)
         let newA:=leftA.filter (·.born≥since)
         let candA:Array (Option MapEntry):=(if oldA.isEmpty then #[none]else #[])++(oldA++newA).map some
         obtain⟨c,w1,hch,hcl,hw1⟩:∃c w1,(choose (.mapNext candA.size)).run P w=.ok c w1∧(candA.size≠0→c<candA.size)∧(w1=w∨w1=w.drew):=by
          by_cases hf:candA.size≤1
          · refine ⟨0,w,?_,fun h=>by omega,.inl rfl⟩
            show(if(Question.mapNext candA.size).forced then _ else _)=_
            rw [if_pos (by simpa [Question.forced]using hf)];rfl
          · refine ⟨(w.tape w.drawn (.mapNext candA.size)) % candA.size,w.drew,?_,fun h=>Nat.mod_lt _ (by omega),.inr rfl⟩
            show(if(Question.mapNext candA.size).forced then _ else _)=_
            rw [if_neg (by simpa [Question.forced]using hf)];rfl
         have hleftL:leftA.toList=ms.toList.filter fun m=>!seen.contains m.born:=by simp [leftA]
         have holdL:oldA.toList=(ms.toList.filter fun m=>!seen.contains m.born).filter fun m=>decide (m.born<since):=by simp only [oldA,Array.toList_filter,hleftL]
         have hnewL:newA.toList=(ms.toList.filter fun m=>!seen.contains m.born).filter fun m=>decide (since≤m.born):=by simp only [newA,Array.toList_filter,hleftL]
         have hoe:oldA.isEmpty=((es.filter fun e=>!seen.contains e.2.2).filter fun e=>decide (e.2.2<since)).isEmpty:=by
          have hl:=hold.len
          rw [←holdL]at hl
          cases hq:((es.filter fun e=>!seen.contains e.2.2).filter fun e=>decide (e.2.2<since))with
          | nil=>
            rw [hq]at hl
            have:oldA.size=0:=by simpa using hl.symm
            simp [Array.eq_empty_of_size_eq_zero this]
          | cons a as=>
            rw [hq]at hl
            have:oldA.size≠0:=by simp at hl;omega
            simp [Array.isEmpty,this]
         have hrun:(Instr.next (.pointer (some ⟨b,0,none⟩)) false ty).run P w=(match candA[c]? with
           | some (some e)=>(do setObj b (.mapIter (some bm) since (seen.toArray.push e.born) clock);pure (.tuple #[.bool true,e.key,e.val]):Sem Value)
           | some none=>pure (.tuple #[.bool false])
           | none=>stuck "Next: no such candidate").run P w1:=by
          simp only [Instr.next,Sem.run_bind,hgo,hgom,Result.andThen_ok,hc1,Bool.false_eq_true,if_false]
          have:=hch
          simp only [candA,oldA,newA,leftA]at this ⊢
          rw [this]
          rfl
         have R1:HRel P B0 W0 ρ h w1:=by rcases hw1 with rfl|rfl;exact R;exact R.drew
         have hwb1:w1.heap[b]? = some (.mapIter (some bm) since seen.toArray stepped):=by rcases hw1 with rfl|rfl<;>exact hw
         have hne:candA.size≠0:=by
          by_cases hq:oldA.isEmpty
          · simp [candA,hq]
          · have:oldA.size≠0:=by simpa [Array.isEmpty]using hq
            simp only [candA,Array.size_append,Array.size_map];omega
         have hcs:=hcl hne
         have hcd:candA[c]? = some candA[c]:=Array.getElem?_eq_getElem hcs
         rw [hcd]at hrun
         have hcl2:candA.toList=(if oldA.isEmpty then [none]else [])++(oldA.toList++newA.toList).map some:=by
          simp only [candA,Array.toList_append,Array.toList_map];split<;>rfl
         have hmem:candA[c]∈candA.toList:=by simp
         rw [hcl2]at hmem
         rcases List.mem_append.1 hmem with hmem|hmem
         · split at hmem
           · rename_i hq
             simp only [List.mem_singleton]at hmem
             rw [hmem]at hrun
             refine⟨.tup [.bool false],h,_,w1,?_,by rw [hrun];rfl,.tup _ _ (.cons _ _ _ _ (.bool _) .nil),R1⟩
             rw [←hoe,if_pos hq];simp
           · cases hmem
         · obtain ⟨en,hen,heq⟩:=List.mem_map.1 hmem
           rw [←heq]at hrun
           rw [holdL,hnewL]at hen
           obtain⟨i,hi1⟩:=List.getElem?_of_mem hen
           obtain⟨ee,h1,h2,h3,h4⟩:=hcand.get i en hi1
           have hso:=dR (P:=P) (o':=.mapIter (some bm) since (seen.toArray.push en.born) clock) hwb1 (by intro c e f hh;cases hh)
           refine⟨.tup [.bool true,ee.1,ee.2.1],h.put id (.miter m since (seen++[ee.2.2]) clock),.tuple #[.bool true,en.key,en.val],{ w1 with heap:=w1.heap.setIfInBounds b (.mapIter (some bm) since (seen.toArray.push en.born) clock) },?_,?_,
            .tup _ _ (.cons _ _ _ _ (.bool _) (.cons _ _ _ _ h2 (.cons _ _ _ _ h3 .nil))),R1.setObj hg hb hwb1 ⟨bm,Cm,hbm,by rw [h4];simp⟩⟩
           · exact List.mem_append_right _ (List.mem_map.2 ⟨ee,List.mem_of_getElem? h1,rfl⟩)
           · rw [hrun];simp only [Sem.run_bind,hso,Result.andThen_ok,Sem.run_pure]
     · cases he
   · cases he
 · cases he
end
end Go.Ev
namespace Go.Ev
open Go.RowKit
inductive DRel (ρ:Loc):List Nat→List Deferred→Prop
 | nil:DRel ρ [] []
 | cons (id b C:Nat) (l:List Nat) (ds:List Deferred) (h:ρ id=some (b,C)) (hs:DRel ρ l ds):DRel ρ (id::l) ({ target:=.collected b,args:=#[] }::ds)
theorem DRel.mono {ρ ρ':Loc}(hl:ρ.le ρ') {l:List Nat}{ds:List Deferred}(h:DRel ρ l ds):DRel ρ' l ds:=by
 induction h with
 | nil=>exact .nil
 | cons id b C l ds h _ ih=>exact .cons id b C l ds (hl.own _ _ h) ih
def mX (ρ:Loc) (r:Option Nat) (l:Option Nat):Prop:=match r,l with
 | none,none=>True
 | some id,some l=>∃C,ρ id=some (l,C)
 | _,_=>False
structure FRel (ρ:Loc) (f:EFr) (b:Frame) (t:Array Value) (d:List Deferred):Prop where
 size:t.size=f.sz
 tmps:TRel ρ f.tmps t
 defers:DRel ρ f.defers d
 round:mX ρ f.round b.roundOf
theorem FRel.mono {ρ ρ':Loc}(hl:ρ.le ρ') {f:EFr}{b:Frame}{t:Array Value}{d:List Deferred}(h:FRel ρ f b t d):FRel ρ' f b t d:=by
 refine⟨h.size,h.tmps.mono hl,h.defers.mono hl,?_⟩
 have:=h.round
 unfold mX at this ⊢
 split<;>simp_all
 obtain⟨C,hC⟩:=this
 exact⟨C,hl.own _ _ hC⟩
theorem FRel.put {ρ:Loc}{f:EFr}{b:Frame}{t:Array Value}{d:List Deferred}(h:FRel ρ f b t d) {dst:Option Tmp}{e:EVal}{v:Value}(hv:VRel ρ e v):FRel ρ (f.putd dst e) b (kF t dst v) d:=by
 cases dst with
 | none=>exact h
 | some i=>
   unfold EFr.putd kF
   simp only [Bool.cond_eq_ite,Nat.blt_eq]
   split
   · rename_i hi
     refine⟨by simpa using h.size,fun j e' hj=>?_,h.defers,h.round⟩
     rcases T.get_set _ _ _ _ hj with⟨rfl,he⟩ | ⟨hne,hg⟩
     · cases he
       have:j<t.size:=by rw [h.size];exact hi
       simp [this,hv]
     · have:=h.tmps j e' hg
       simp only [Array.getD_eq_getD_getElem?]at this ⊢
       rw [Array.getElem?_setIfInBounds_ne (Ne.symm hne)]
       exact this
   · rename_i hi
     have:¬i<t.size:=by rw [h.size];exact hi
     rw [Array.setIfInBounds_eq_of_size_le (Nat.le_of_not_lt this)]
     exact h
theorem p8 {ρ:Loc}{ops:Array Oper}{t:T EVal}{tm:Array Value}(ht:TRel ρ t tm) {j:Nat}{y:Option Bool}(he:yieldedE ops t j=some y):yielded ops tm j=y:=by
 unfold yieldedE at he
 unfold yielded
 split at he
 · rename_i o ho
   rw [ho]
   split at he
   · rename_i d hd
     simp only [Option.bind_some,hd]
     split at he
     · rename_i b hb
       simp only [Oi]at he;subst he
       have:=ht d _ hb
       cases hq:tm[d]? with
       | none=>rw [Array.getD_eq_getD_getElem?,hq]at this;cases this
       | some v=>
         rw [Array.getD_eq_getD_getElem?,hq]at this
         simp only [Option.getD_some]at this
         cases this
         rfl
     · cases he
     · rename_i e hne1 hne2 hb
       simp only [Oi]at he;subst he
       have:=ht d _ hb
       cases hq:tm[d]? with
       | none=>rfl
       | some v=>
         rw [Array.getD_eq_getD_getElem?,hq]at this
         simp only [Option.getD_some]at this
         cases v<;>first|rfl|(cases this;exact absurd rfl (hne1 _))
     · cases he
   · rename_i hd
     simp only [Oi]at he;subst he
     simp [hd]
 · rename_i ho
   simp only [Oi]at he;subst he
   simp [ho]
theorem aJ {ρ:Loc}{ops:Array Oper}{t:T EVal}{tm:Array Value}(ht:TRel ρ t tm) {o:Oper}{r:Bool}(he:wantedE ops t o=some r):Region.wanted o (yielded ops tm)=r:=by
 unfold wantedE at he
 unfold Region.wanted
 split at he
 · rename_i hg
   simp only [Oi]at he;subst he
   rw [hg]
 · rename_i j want hg
   rw [hg]
   split at he
   · rename_i y hy
     simp only [Oi]at he;subst he
     simp only [p8 ht hy]
   · cases he
def ArrE (P:Program) (m:Machine) (b:Frame) (k:List Item) (cs:List Frame) (e:oZ) (t:Array Value) (d:List Deferred) (w:World):Prop:=
 match e with
 | .normal=>Steps P m (lone (fr b t d k) cs w)
 | .exit id=>∃k',exitTo id k'=exitTo id k∧Steps P m (lone (fr b t d (.code (.exit id)::k')) cs w)
 | .ret=>∃k',Steps P m (lone (fr b t d (.code .ret::k')) cs w)
theorem ArrE.of_steps {P:Program}{m m':Machine}{b:Frame}{k:List Item}{cs:List Frame}{e:oZ}{t:Array Value}{d:List Deferred}{w:World}(hs:Steps P m m') (h:ArrE P m' b k cs e t d w):ArrE P m b k cs e t d w:=by
 cases e with
 | normal=>exact hs.trans h
 | exit id=>obtain⟨k',h1,h2⟩:=h;exact⟨k',h1,hs.trans h2⟩
 | ret=>obtain⟨k',h2⟩:=h;exact⟨k',hs.trans h2⟩
section
variable (P:Program) (B0:Nat) (W0:eF) (g:G)
structure bZ (r:Rec):Prop where
 code:∀(c:Code) (f:EFr) (h:H) (outs:List Out),r (.code c f h)=some outs→∀(b:Frame) (t:Array Value) (d:List Deferred) (k:List Item) (cs:List Frame) (ρ:Loc) (w:World),
  FRel ρ f b t d→HRel P B0 W0 ρ h w→∃e f' h',Out.code e f' h'∈outs∧∃t' d' w' ρ',ρ.le ρ'∧FRel ρ' f' b t' d'∧HRel P B0 W0 ρ' h' w'∧ArrE P (lone (fr b t d (.code c::k)) cs w) b k cs e t' d' w'
 ops:∀(all:Array Oper) (l:List Oper) (f:EFr) (h:H) (outs:List Out),r (.ops all l f h)=some outs→∀(js:List Nat),js.map (all[·]?)=l.map some→∀(b:Frame) (t:Array Value) (d:List Deferred) (k:List Item) (cs:List Frame) (ρ:Loc) (w:World),
  FRel ρ f b t d→HRel P B0 W0 ρ h w→∃f' h',Out.code .normal f' h'∈outs∧∃t' w' ρ',ρ.le ρ'∧FRel ρ' f' b t' d∧HRel P B0 W0 ρ' h' w'∧Steps P (lone (fr b t d (.inRegion all js::k)) cs w) (lone (fr b t' d k) cs w')
 call:∀(fn:FuncId) (args:List EVal) (h:H) (outs:List Out),r (.call fn args h)=some outs→∀(vs:Array Value) (ρ:Loc) (w:World),VsRel ρ args vs.toList→HRel P B0 W0 ρ h w →
  Calls P fn vs w fun e w'=>∃v h' u ρ',Out.val v h'∈outs∧e=.returned u∧ρ.le ρ'∧VRel ρ' v u∧HRel P B0 W0 ρ' h' w'
 round:∀(id:Nat) (args:List EVal) (h:H) (outs:List Out),r (.round id args h)=some outs→∀(l C:Nat) (vs:Array Value) (ρ:Loc) (w:World) (c:Frame) (cs:List Frame),ρ id=some (l,C)→VsRel ρ args vs.toList→HRel P B0 W0 ρ h w →
  ∃v h' u ρ' w' f0 tm x y,Out.val v h'∈outs∧(Instr.yield l vs).run P w=.ok (.round l f0 tm x y) w∧ρ.le ρ'∧VRel ρ' v u∧HRel P B0 W0 ρ' h' w' ∧
   Steps P (lone (Frame.round l f0 tm x y .normal) (c::cs) w) (lone (c.finish u) cs w')
 again:∀(c:Code) (f:EFr) (h:H) (outs:List Out),r (.again c f h)=some outs→∀(b:Frame) (t:Array Value) (d:List Deferred) (k:List Item) (cs:List Frame) (ρ:Loc) (w:World),
  FRel ρ f b t d→HRel P B0 W0 ρ h w→∃e f' h',Out.code e f' h'∈outs∧∃t' d' w' ρ',ρ.le ρ'∧FRel ρ' f' b t' d'∧HRel P B0 W0 ρ' h' w'∧ArrE P (lone (fr b t d (.code c::.inLoop c::k)) cs w) b k cs e t' d' w'
end
theorem tS:∀ {l:List Out}{f:Out→Option (List Out)}{outs:List Out}{x:Out},axD l f=some outs→x∈l→∃o,f x=some o∧∀y∈o,y∈outs
 | [],_,_,_,_,hx=>by cases hx
 | [a],f,outs,x,hb,hx=>by
   simp only [List.mem_singleton]at hx;subst hx
   exact⟨outs,hb,fun _ h=>h⟩
 | a :: a2::l,f,outs,x,hb,hx=>by
   simp only [axD]at hb
   split at hb
   · rename_i o1 h1
     split at hb
     · rename_i o2 h2
       simp only [Oi]at hb;subst hb
       rcases List.mem_cons.1 hx with rfl|hx
       · exact⟨o1,h1,fun y hy=>List.mem_append_left _ hy⟩
       · obtain ⟨o,h3,h4⟩:=tS h2 hx
         exact⟨o,h3,fun y hy=>List.mem_append_right _ (h4 y hy)⟩
     · cases hb
   · cases hb
theorem bM {r:Option (List Out)}{f:Out→Option (List Out)}{outs:List Out}(ht:jH r f=some outs):∃l,r=some l∧∀x∈l,∃o,f x=some o∧∀y∈o,y∈outs:=by
 unfold jH at ht
 split at ht
 · rename_i l
   exact⟨l,rfl,fun x hx=>tS ht hx⟩
 · cases ht
theorem lJ:∀ {l:List (EVal×H)}{f:EVal→H→Option (List Out)}{outs:List Out}{x:EVal×H},mI l f=some outs→x∈l→∃o,f x.1 x.2=some o∧∀y∈o,y∈outs
 | [],_,_,_,_,hx=>by cases hx
 | (v, h) :: l,f,outs,x,hb,hx=>by
   simp only [mI]at hb
   split at hb
   · rename_i o1 h1
     split at hb
     · rename_i o2 h2
       simp only [Oi]at hb;subst hb
       rcases List.mem_cons.1 hx with rfl|hx
       · exact⟨o1,h1,fun y hy=>List.mem_append_left _ hy⟩
       · obtain ⟨o,h3,h4⟩:=lJ h2 hx
         exact⟨o,h3,fun y hy=>List.mem_append_right _ (h4 y hy)⟩
     · cases hb
   · cases hb
theorem aD {P:Program}{g:G}{h:H}{t:T EVal}{o:Oper}{out:EOut}(he:eOp P g h t o=some out):∀c,o.op≠.defer c:=by
 intro c hc
 unfold eOp at he
 rw [hc]at he
 cases he
section
variable {P:Program}{B0:Nat}{W0:eF}{g:G}{r:Rec}
theorem FRel.erel {ρ:Loc}{f:EFr}{b:Frame}{t:Array Value}{d:List Deferred}(h:FRel ρ f b t d):ax1 ρ f.tmps ({ tmps:=t,defers:=d }:Act).eval:=TRel.eval (a:={ tmps:=t,defers:=d }) h.tmps
theorem bA (ρ:Loc):VRel ρ undefE undef:=.tup _ _ .nil
theorem dS (S:bZ P B0 W0 r) {all:Array Oper}{o:Oper}{rest:List Oper}{f:EFr}{h':H}{e:EVal}{outs:List Out}(hr:r (.ops all rest (f.putd o.dst e) h')=some outs)
  {i:Nat} {js:List Nat} (hjs:js.map (all[·]?)=rest.map some) {b:Frame} {t:Array Value} {d:List Deferred} {k:List Item} {cs:List Frame} {ρ ρ':Loc} {w w':World} (F:FRel ρ f b t d) (hle:ρ.le ρ') {v:Value} (hv:VRel ρ' e v) (R:HRel P B0 W0 ρ' h' w')
  (hst:Steps P (lone (fr b t d (.inRegion all (i::js)::k)) cs w) (lone (fr b (kF t o.dst v) d (.inRegion all js::k)) cs w')) :
  ∃f' h',Out.code .normal f' h'∈outs∧∃t' w' ρ',ρ.le ρ'∧FRel ρ' f' b t' d∧HRel P B0 W0 ρ' h' w'∧Steps P (lone (fr b t d (.inRegion all (i::js)::k)) cs w) (lone (fr b t' d k) cs w'):=by
 obtain⟨f2,h2,hm,t2,w2,ρ2,l2,F2,R2,S2⟩:=S.ops _ _ _ _ _ hr js hjs b _ d k cs ρ' w' ((F.mono hle).put hv) R
 exact⟨f2,h2,hm,t2,w2,ρ2,Loc.le_trans hle l2,F2,R2,hst.trans S2⟩
theorem z9 (hng:fL P) (G:GRel B0 W0.w g) (S:bZ P B0 W0 r) (all:Array Oper) (l:List Oper) (f:EFr) (h:H) (outs:List Out) (he:wD P g r all l f h=some outs) (js:List Nat) (hjs:js.map (all[·]?)=l.map some)
  (b:Frame) (t:Array Value) (d:List Deferred) (k:List Item) (cs:List Frame) (ρ:Loc) (w:World) (F:FRel ρ f b t d) (R:HRel P B0 W0 ρ h w) :
  ∃f' h',Out.code .normal f' h'∈outs∧∃t' w' ρ',ρ.le ρ'∧FRel ρ' f' b t' d∧HRel P B0 W0 ρ' h' w'∧Steps P (lone (fr b t d (.inRegion all js::k)) cs w) (lone (fr b t' d k) cs w'):=by
 unfold wD at he
 split at he
 · simp only [Oi]at he;subst he
   obtain rfl:js=[]:=by simpa using hjs
   exact⟨f,h,by simp,t,w,ρ,Loc.le_refl _,F,R,.one cG⟩
 · rename_i o rest
   cases js with
   | nil=>simp at hjs
   | cons i js =>
     simp only [List.map_cons,List.cons.injEq]at hjs
     obtain⟨ho,hjs⟩:=hjs
     unfold zU at he
     split at he
     · rename_i hw
       have hwant:=aJ F.tmps hw
       unfold runOp at he
       split at he
       ·
         rename_i it hop
         unfold mapK at he
         split at he
         · rename_i l hl
           cases hx:ev f.tmps it with
           | none=>rw [hx]at hl;cases hl
           | some x=>
             rw [hx]at hl
             obtain⟨e,h',u,w',hm,hrun,hv,R'⟩:=fP R o.type (F.erel _ _ hx) hl
             obtain⟨o1,h3,h4⟩:=lJ he hm
             have hst:Steps P (lone (fr b t d (.inRegion all (i::js)::k)) cs w) (lone (fr b (kF t o.dst u) d (.inRegion all js::k)) cs w'):=by
              refine .one (bX ho hwant (fun c hc=>by rw [hop]at hc;cases hc) ?_)
              unfold execOp
              rw [hop]
              simp only [Sem.run_bind]
              rw [hrun]
              rfl
             obtain⟨f2,h5,hm2,rest2⟩:=dS S h3 hjs F (Loc.le_refl _) hv R' hst
             exact⟨f2,h5,h4 _ hm2,rest2⟩
         · cases he
       · rename_i hnot
         unfold outK at he
         split at he
         · rename_i v h' hop
           obtain⟨w',ρ',hle,R',hres⟩:=bG hng G R F.erel hop
           rcases hres with⟨u,hrun,hv⟩ | ⟨hrun,rfl⟩
           · exact dS S he hjs F hle hv R' (.one (bX ho hwant (aD hop) hrun))
           · exact dS S he hjs F hle (bA _) R' (.one (jL ho hwant (aD hop) hrun))
         · rename_i fn args h' hop
           obtain⟨rfl,vs,hrun,hvs⟩:=bG hng G R F.erel hop
           obtain⟨l1,h1,h2⟩:=bM he
           have hc:=S.call _ _ _ _ h1 vs ρ w hvs R
           obtain⟨e1,w1,fr1,⟨v,h',u,ρ',hm,rfl,hle,hv,R'⟩,hcomes,hfn,hleave⟩:=hc (fr b t d (.inRegion all (i::js)::k)::cs)
           obtain⟨o1,h3,h4⟩:=h2 _ hm
           have hst:Steps P (lone (fr b t d (.inRegion all (i::js)::k)) cs w) (lone (fr b (kF t o.dst u) d (.inRegion all js::k)) cs w1):=by
            refine .head (fN ho hwant (aD hop) hrun) (Steps.trans hcomes (.one ?_))
            rw [←aT ho]
            exact step_leave_returned hleave
           obtain⟨f2,h5,hm2,rest2⟩:=dS S h3 hjs F hle hv R' hst
           exact⟨f2,h5,h4 _ hm2,rest2⟩
         · rename_i id args h' hop
           obtain⟨rfl,bl,C,vs,hb,hrun,hvs⟩:=bG hng G R F.erel hop
           obtain⟨l1,h1,h2⟩:=bM he
           obtain⟨v,h',u,ρ',w',f0,tm,x,y,hm,hy,hle,hv,R',hst⟩:=S.round _ _ _ _ h1 bl C vs ρ w (fr b t d (.inRegion all (i::js)::k)) cs hb hvs R
           obtain⟨o1,h3,h4⟩:=h2 _ hm
           have hst':Steps P (lone (fr b t d (.inRegion all (i::js)::k)) cs w) (lone (fr b (kF t o.dst u) d (.inRegion all js::k)) cs w'):=by
            refine .head (qB ho hwant (aD hop) (by rw [hrun];exact hy)) ?_
            rw [←aT ho]
            exact hst
           obtain⟨f2,h5,hm2,rest2⟩:=dS S h3 hjs F hle hv R' hst'
           exact⟨f2,h5,h4 _ hm2,rest2⟩
         · cases he
     · rename_i hw
       have hwant:=aJ F.tmps hw
       exact dS S he hjs F (Loc.le_refl _) (bA _) R (.one (hJ ho hwant))
     · cases he
end
end Go.Ev
namespace Go.Ev
open Go.RowKit
mutual
theorem EVal.beq_eq:∀ {a b:EVal},EVal.beq a b=true→a=b
 | .unk,.unk,_=>rfl
 | .bool a,.bool b,h=>by simp [EVal.beq]at h;rw [h]
 | .int k a,.int k' b,h=>by simp [EVal.beq]at h;rw [h.1,h.2]
 | .str a,.str b,h=>by simp [EVal.beq]at h;rw [h]
 | .nilp,.nilp,_=>rfl
 | .gptr a b,.gptr c d,h=>by simp [EVal.beq]at h;rw [h.1,h.2]
 | .ptr a b,.ptr c d,h=>by simp [EVal.beq]at h;rw [h.1,h.2]
 | .nilslice,.nilslice,_=>rfl
 | .slice a b c x,.slice d e f y,h=>by simp [EVal.beq]at h;obtain⟨⟨⟨rfl,rfl⟩,rfl⟩,rfl⟩:=h;rfl
 | .nilmap,.nilmap,_=>rfl
 | .map a,.map b,h=>by simp [EVal.beq]at h;rw [h]
 | .nilfunc,.nilfunc,_=>rfl
 | .nilif,.nilif,_=>rfl
 | .zsl,.zsl,_=>rfl
 | .zslt a,.zslt b,h=>by simp [EVal.beq]at h;rw [h]
 | .func f a,.func f' b,h=>by
   simp [EVal.beq]at h
   rw [h.1,g6 h.2]
 | .bound f a,.bound f' b,h=>by
   simp [EVal.beq]at h
   rw [h.1,g6 h.2]
 | .yieldf a,.yieldf b,h=>by simp [EVal.beq]at h;rw [h]
 | .iface t a,.iface u b,h=>by
   simp [EVal.beq]at h
   rw [h.1,EVal.beq_eq h.2]
 | .agg a,.agg b,h=>by simp only [EVal.beq]at h;rw [g6 h]
 | .tup a,.tup b,h=>by simp only [EVal.beq]at h;rw [g6 h]
 | .lsl a,.lsl b,h=>by simp only [EVal.beq]at h;rw [rP h]
 | .lptr a i,.lptr b j,h=>by
   simp [EVal.beq]at h
   rw [h.1,g6 h.2]
 | .gsl i a,.gsl j b,h=>by
   simp [EVal.beq]at h
   rw [h.1,rP h.2]
theorem g6:∀ {a b:List EVal},zE a b=true→a=b
 | [],[],_=>rfl
 | a::l,b::m,h=>by
   simp only [zE,Bool.and_eq_true]at h
   rw [EVal.beq_eq h.1,g6 h.2]
theorem rP:∀ {a b:List (List EVal)},vQ a b=true→a=b
 | [],[],_=>rfl
 | a::l,b::m,h=>by
   simp only [vQ,Bool.and_eq_true]at h
   rw [g6 h.1,rP h.2]
end
theorem gU (m i:Nat):hasB m i=m.testBit i:=by
 unfold hasB
 show(!Nat.beq (1 &&& (m >>> i)) 0)=_
 unfold Nat.testBit
 cases h:(1 &&& (m >>> i))with
 | zero=>rfl
 | succ n=>rfl
theorem orAll_spec {A:List Nat}:∀ {l:List Nat}{j:Nat},hasB (uL A l) j=true→j∈l∨∃q∈l,hasB (nthM A q) j=true
 | [],j,h=>by
   rw [gU]at h
   have:uL A []=0:=rfl
   rw [this,Nat.zero_testBit]at h;cases h
 | x :: l,j,h=>by
   have e:uL A (x::l)=((1 <<< x) ||| nthM A x) ||| uL A l:=rfl
   rw [gU,e,Nat.testBit_or,Nat.testBit_or,Bool.or_eq_true,Bool.or_eq_true]at h
   rcases h with(h|h)|h
   · rw [Nat.testBit_shiftLeft,Bool.and_eq_true]at h
     obtain⟨h1,h2⟩:=h
     simp only [ge_iff_le,decide_eq_true_eq]at h1
     have:j-x=0:=by
      cases hq:j-x with
      | zero=>rfl
      | succ n=>rw [hq]at h2;simp [Nat.testBit_succ]at h2
     have:j=x:=by omega
     subst this
     exact .inl (.head _)
   · exact .inr ⟨x,.head _,by rw [gU];exact h⟩
   · rcases orAll_spec (l:=l) (by rw [gU];exact h)with h|⟨q,hq,h⟩
     · exact .inl (.tail _ h)
     · exact .inr ⟨q,.tail _ hq,h⟩
theorem p5 {i:Nat}:∀ {l:List Nat},ajL i l=true→∀j∈l,j<i
 | [],_,j,h=>by cases h
 | x :: l,h,j,hj=>by
   have e:ajL i (x::l)=bif Nat.blt x i then ajL i l else false:=rfl
   rw [e,Bool.cond_eq_ite]at h
   split at h
   · rename_i hx
     rcases List.mem_cons.1 hj with rfl|hj
     · simpa using hx
     · exact p5 h j hj
   · cases h
theorem fJ {A:List Nat}:∀ {l:List Oper}{k:Nat},ajG A l k=true→∀i o,l[i]? = some o →
  (∀j,hasB (nthM A (k+i)) j=true→j∈cY o∨∃q∈cY o,hasB (nthM A q) j=true)∧∀j∈cY o,j<k+i
 | [],_,_,i,o,h=>by simp at h
 | x :: l, k,hk,i,o,h=>by
   have e:ajG A (x::l) k=bif Nat.beq (nthM A k) (uL A (cY x))then bif ajL k (cY x)then ajG A l (k+1)else false else false:=rfl
   rw [e,Bool.cond_eq_ite]at hk
   split at hk
   · rename_i h1
     rw [Bool.cond_eq_ite]at hk
     split at hk
     · rename_i h2
       cases i with
       | zero=>
         simp only [List.getElem?_cons_zero,Oi]at h;subst h
         refine⟨fun j hj=>?_,p5 h2⟩
         rw [Nat.add_zero,Nat.eq_of_beq_eq_true h1]at hj
         exact orAll_spec hj
       | succ i=>
         have:=fJ hk i o (by simpa using h)
         rwa [show k+1+i=k+(i+1)from by omega]at this
     · cases hk
   · cases hk
theorem fieldT_spec {n t s j:Nat}(hj:j<n) (h:hasB t (s*n+j)=true):hasB (pO n t s) j=true:=by
 rw [gU]at h ⊢
 show((t >>> (s*n)) &&& ((1 <<< n)-1)).testBit j=true
 rw [Nat.testBit_and,Nat.testBit_shiftRight,h,Nat.one_shiftLeft,Nat.testBit_two_pow_sub_one]
 simp [hj]
theorem sQ (n t s i:Nat):hasB (putB n t s i) (s*n+i)=true:=by
 rw [gU]
 show(t ||| (1 <<< (s*n+i))).testBit (s*n+i)=true
 rw [Nat.testBit_or,Nat.testBit_shiftLeft]
 simp
theorem sR {n t s i j:Nat}(h:hasB t j=true):hasB (putB n t s i) j=true:=by
 rw [gU]at h ⊢
 show(t ||| (1 <<< (s*n+i))).testBit j=true
 rw [Nat.testBit_or,h,Bool.true_or]
theorem within_spec {a m j:Nat}(h:o6 a m=true) (hj:hasB m j=true):hasB a j=true:=by
 rw [gU]at hj ⊢
 have h1:(m &&& a)=m:=Nat.eq_of_beq_eq_true h
 rw [←h1,Nat.testBit_and,Bool.and_eq_true]at hj
 exact hj.2
theorem lQ {n a w:Nat}:∀ {l:List Nat},nC n a w l=true→∀s∈l,o6 a (pO n w s)=true
 | [],_,s,h=>by cases h
 | x :: l,h,s,hs=>by
   have e:nC n a w (x::l)=bif o6 a (pO n w x)then nC n a w l else false:=rfl
   rw [e,Bool.cond_eq_ite]at h
   split at h
   · rename_i h1
     rcases List.mem_cons.1 hs with rfl|hs
     · exact h1
     · exact lQ h s hs
   · cases h
theorem iW {n i:Nat}:∀ {l:List Nat}{t j:Nat},hasB t j=true→hasB (wG n i l t) j=true
 | [],_,_,h=>h
 | x::l,t,j,h=>iW (l:=l) (sR h)
theorem nE {n i:Nat}:∀ {l:List Nat}{t s:Nat},s∈l→hasB (wG n i l t) (s*n+i)=true
 | x::l,t,s,h=>by
   rcases List.mem_cons.1 h with rfl|h
   · exact iW (l:=l) (sQ _ _ _ _)
   · exact nE (l:=l) h
theorem z8 {n t i j:Nat}{d:Option Tmp}(h:hasB t j=true):hasB (putD n t i d) j=true:=by
 cases d with
 | none=>exact h
 | some s=>exact sR h
def Meets (ops:Array Oper) (x y:Oper):Prop:=∃s,(x.dst=some s∧(s∈aX ops y∨y.dst=some s))∨(y.dst=some s∧s∈aX ops x)
theorem lS {ops:Array Oper}{A:List Nat}{n:Nat}:∀ {l pre:List Oper}{w q:Nat},qN ops A n l pre.length w q=true→pre.length+l.length≤n →
  (∀j x s,pre[j]? = some x→x.dst=some s→hasB w (s*n+j)=true)→(∀j x s,pre[j]? = some x→s∈aX ops x→hasB q (s*n+j)=true) →
  ∀i j x y,(pre++l)[i]? = some x→(pre++l)[j]? = some y→pre.length≤j→i<j→Meets ops x y→hasB (nthM A j) i=true
 | [],pre,w,q,_,_,_,_,i,j,x,y,hx,hy,hj,_,_=>by
   rw [List.append_nil]at hy
   have:=(List.getElem?_eq_some_iff.1 hy).1
   omega
 | o :: l, pre,w,q,hg,hn,hw,hq,i,j,x,y,hx,hy,hj,hij,hm=>by
   have e:qN ops A n (o::l) pre.length w q=bif nC n (nthM A pre.length) w (aX ops o)then bif ajk n (nthM A pre.length) w q o.dst then qN ops A n l (pre.length+1) (putD n w pre.length o.dst) (wG n pre.length (aX ops o) q)else false else false:=rfl
   rw [e,Bool.cond_eq_ite]at hg
   split at hg
   rotate_left
   · cases hg
   rename_i h1
   rw [Bool.cond_eq_ite]at hg
   split at hg
   rotate_left
   · cases hg
   rename_i h2
   by_cases hje:j=pre.length
   · subst hje
     have hy':y=o:=by simpa using hy.symm
     subst hy'
     have hx':pre[i]? = some x:=by rwa [List.getElem?_append_left (by omega)]at hx
     have hin:i<n:=by omega
     obtain⟨s,⟨hd,hr|hr⟩ | ⟨hd,hr⟩⟩:=hm
     · exact within_spec (lQ h1 s hr) (fieldT_spec hin (hw i x s hx' hd))
     · unfold ajk at h2
       rw [hr]at h2
       simp only [Bool.cond_eq_ite]at h2
       split at h2
       · rename_i h3;exact within_spec h3 (fieldT_spec hin (hw i x s hx' hd))
       · cases h2
     · unfold ajk at h2
       rw [hd]at h2
       simp only [Bool.cond_eq_ite]at h2
       split at h2
       · exact within_spec h2 (fieldT_spec hin (hq i x s hx' hr))
       · cases h2
   · have hl:(pre++[o]).length=pre.length+1:=by simp
     have ea:pre++o::l=(pre++[o])++l:=by simp
     rw [ea]at hx hy
     refine lS (l:=l) (pre:=pre++[o]) (by rw [hl];exact hg) (by rw [hl];simp at hn;omega) ?_ ?_ i j x y hx hy (by rw [hl];omega) hij hm
     · intro j' x' s hx' hd
       by_cases hlt:j'<pre.length
       · rw [List.getElem?_append_left hlt]at hx'
         exact z8 (hw j' x' s hx' hd)
       · have:j'=pre.length:=by
          have:=(List.getElem?_eq_some_iff.1 hx').1
          simp at this;omega
         subst this
         have:x'=o:=by simpa using hx'.symm
         subst this
         rw [hd]
         exact sQ _ _ _ _
     · intro j' x' s hx' hd
       by_cases hlt:j'<pre.length
       · rw [List.getElem?_append_left hlt]at hx'
         exact iW (hq j' x' s hx' hd)
       · have:j'=pre.length:=by
          have:=(List.getElem?_eq_some_iff.1 hx').1
          simp at this;omega
         subst this
         have:x'=o:=by simpa using hx'.symm
         subst this
         exact nE hd
theorem dL {ops:Array Oper}{A:List Nat}(h:bN ops A=true):ajG A ops.toList 0=true ∧
  ∀(i j:Nat) (x y:Oper),ops.toList[i]? = some x→ops.toList[j]? = some y→i<j→Meets ops x y→hasB (nthM A j) i=true:=by
 unfold bN at h
 rw [Bool.cond_eq_ite]at h
 split at h
 · rename_i h1
   refine⟨h1,fun i j x y hx hy hij hm=>?_⟩
   exact lS (pre:=[]) h (by simp) (fun _ _ _ h=>by simp at h) (fun _ _ _ h=>by simp at h) i j x y (by simpa using hx) (by simpa using hy) (Nat.zero_le _) hij hm
 · cases h
theorem jQ {t:T EVal}:∀ {l:List Nat}{s:Nat}{e:EVal},(uJ t l).get s=some e→s∈l∧t.get s=some e
 | [],s,e,h=>by have:=T.get_full _ _ _ h;cases this
 | x :: l,s,e,h=>by
   have h:((uJ t l).set x (t.get x)).get s=some e:=h
   rcases T.get_set _ _ _ _ h with⟨rfl,h1⟩ | ⟨_,h1⟩
   · exact⟨.head _,h1⟩
   · have:=jQ h1
     exact⟨.tail _ this.1,this.2⟩
section
variable {P:Program}{g:G}{K:aH}{r:Rec}
def HFree (F:H→Option EOut):Prop:=∀h out,F h=some out→∃v,out=.val v h∧∀h',F h'=some (.val v h')
theorem HFree.mk (x:Option EVal):HFree (mk x):=by
 intro h out he
 cases x with
 | none=>cases he
 | some v=>simp only [Go.Ev.mk,Option.map_some,Oi]at he;exact⟨v,he.symm,fun _=>rfl⟩
theorem HFree.none:HFree (fun _=>none):=fun _ _ he=>by cases he
theorem HFree.val (v:EVal):HFree (fun h=>some (.val v h)):=fun h out he=>by
 simp only [Oi]at he;exact⟨v,he.symm,fun _=>rfl⟩
theorem qQ {t:T EVal}{o:Oper}(hk:isKept t o=true):HFree (fun h=>eOp P g h t o):=by
 obtain⟨dst,op,ty,pos,after,guard⟩:=o
 cases op<;>first|(cases hk;done)|skip
 case load ty x=>
  unfold isKept at hk
  simp only at hk
  split at hk
  · rename_i cs off hx
    show HFree (fun h=>eLoadOp P g h ty (ev t x))
    rw [hx]
    exact HFree.mk _
  · cases hk
theorem yC {t:T EVal}{o:Oper}{h:H}{v:EVal}(hk:isKept t o=true):isStill o h v=true:=by
 unfold isKept at hk
 unfold isStill isQuiet
 split at hk
 · rename_i hop;rw [hop]
 · cases hk
theorem nF {t:T EVal}{o:Oper}(hp:isPure o=true):HFree (fun h=>eOp P g h t o):=by
 obtain⟨dst,op,ty,pos,after,guard⟩:=o
 cases op<;>first|(cases hp;done)|skip
 case move x=>exact HFree.mk (ev t x)
 case assign x=>exact HFree.mk (ev t x)
 case pick c a b=>
  show HFree (fun h=>ePick h (ev t a) (ev t b) (ev t c))
  unfold ePick
  split
  · exact HFree.mk _
  · exact HFree.mk _
  · exact HFree.none
 case build ty parts=>
  show HFree (fun h=>eBuild P h ty (evParts t parts.toList))
  unfold eBuild
  split
  · unfold eBuildS
    split
    · split
      · exact HFree.val _
      · exact HFree.none
    · exact HFree.none
  · unfold eBuildA
    split
    · split
      · exact HFree.val _
      · exact HFree.none
    · exact HFree.none
  · exact HFree.none
 case nilCheck x=>
  show HFree (fun h=>eNil h (ev t x))
  unfold eNil
  split<;>first|exact HFree.val _|exact HFree.none
 case binOp op ty x y z=>
  show HFree (fun h=>eBinOp P h op ty (ev t x) (ev t y))
  unfold eBinOp
  split<;>first|exact HFree.mk _|exact HFree.none
 case unOp op ty x=>
  show HFree (fun h=>eUnOp h op (ev t x))
  unfold eUnOp
  split<;>first|exact HFree.mk _|exact HFree.none
 case slice ty x lo hi mx=>
  cases mx with
  | some _=>cases hp
  | none=>
  show HFree (fun h=>eSliceOp P h ty (ev t x) (evOpt t lo) (evOpt t hi))
  unfold eSliceOp
  split<;>first|exact HFree.mk _|exact HFree.none
 case fieldAddr s x f=>
  show HFree (fun h=>eFieldAddrOp P h s f (ev t x))
  unfold eFieldAddrOp
  split<;>first|exact HFree.mk _|exact HFree.none
 case field s x f=>
  show HFree (fun h=>eFieldOp P h s f (ev t x))
  unfold eFieldOp
  split<;>first|exact HFree.mk _|exact HFree.none
 case indexAddr s x f=>
  show HFree (fun h=>eIndexAddrOp P h s (ev t x) (ev t f))
  unfold eIndexAddrOp
  split<;>first|exact HFree.mk _|exact HFree.none
 case index s x f=>
  show HFree (fun h=>eIndexOp P h s (ev t x) (ev t f))
  unfold eIndexOp
  split<;>first|exact HFree.mk _|exact HFree.none
 case extract x f=>
  show HFree (fun h=>eExtract h f (ev t x))
  unfold eExtract
  split<;>first|exact HFree.mk _|exact HFree.none
theorem uR {x:Option EVal}{h h':H}{v:EVal}(he:mk x h=some (.val v h')):h'=h:=by
 cases x with
 | none=>cases he
 | some u=>simp only [mk,Option.map_some,Oi,EOut.val.injEq]at he;exact he.2.symm
theorem qL {h h':H}{t:T EVal}{o:Oper}{v:EVal}(hp:isQuiet o=true) (he:eOp P g h t o=some (.val v h')):h'=h:=by
 obtain⟨dst,op,ty,pos,after,guard⟩:=o
 cases op<;>first|(cases hp;done)|skip
 case load ty a=>
  have he:eLoadOp P g h ty (ev t a)=some (.val v h'):=he
  unfold eLoadOp at he
  split at he
  · exact uR he
  · cases he
 case lookup ty x i ok=>
  have he:fG P h ty ok (ev t x) (ev t i)=some (.val v h'):=he
  unfold fG at he
  split at he
  · exact uR he
  · cases he
 case convert a b x=>
  have he:eConvOp P h a b (ev t x)=some (.val v h'):=he
  unfold eConvOp at he
  split at he
  · exact uR he
  · cases he
 case makeFunc fn first caps=>
  cases fn<;>first|(cases hp;done)|skip
  rename_i f
  have he:bW h f first (evs t first.toList) (evs t caps.toList)=some (.val v h'):=he
  unfold bW at he
  split at he
  · split at he
    · simp only [Oi,EOut.val.injEq]at he;exact he.2.symm
    · split at he
      · simp only [Oi,EOut.val.injEq]at he;exact he.2.symm
      · cases he
  · cases he
 case call c=>
  have he:eCall P h t c.callee c.argTypes (evs t c.args.toList)=some (.val v h'):=he
  have hp:(match c.callee with
   | .builtin .len=>true
   | .builtin .cap=>true
   | .builtin .unsafeSliceData=>true
   | _=>false)=true:=hp
  unfold eCall at he
  split at he
  · cases he
  · rename_i args hargs
    have hb:∀b,c.callee=.builtin b→eCallB P h b c.argTypes args=some (.val v h'):=by
     intro b hb;rw [hb]at he;exact he
    split at hp
    · rename_i hc
      have:=hb _ hc
      unfold eCallB eBuiltin at this
      simp only at this
      split at this
      · rename_i v1 h1 hq
        simp only [Oi,EOut.val.injEq]at this
        obtain⟨_,rfl⟩:=this
        split at hq
        · simp only [Option.map_eq_some_iff,Prod.mk.injEq]at hq
          obtain⟨_,_,_,h2⟩:=hq;exact h2.symm
        · cases hq
      · cases this
    · rename_i hc
      have:=hb _ hc
      unfold eCallB eBuiltin at this
      simp only at this
      split at this
      · rename_i v1 h1 hq
        simp only [Oi,EOut.val.injEq]at this
        obtain⟨_,rfl⟩:=this
        split at hq
        · simp only [Option.map_eq_some_iff,Prod.mk.injEq]at hq
          obtain⟨_,_,_,h2⟩:=hq;exact h2.symm
        · cases hq
      · cases this
    · rename_i hc
      have:=hb _ hc
      unfold eCallB eBuiltin at this
      simp only at this
      split at this
      · rename_i v1 h1 hq
        simp only [Oi,EOut.val.injEq]at this
        obtain⟨_,rfl⟩:=this
        split at hq
        · simp only [Oi,Prod.mk.injEq]at hq;exact hq.2.symm
        · split at hq
          · cases hq
          · simp only [Oi,Prod.mk.injEq]at hq;exact hq.2.symm
        · cases hq
      · cases this
    · cases hp
theorem EVal.kept_lsl {v:EVal}(h:v.kept=true):∃l,v=.lsl l:=by
 cases v<;>first|(cases h;done)|exact⟨_,rfl⟩
theorem lD {h h' : H} {t:TypeId}{s x:EVal}{l:List (List EVal)}(he:eAppend P h t s x=some (.lsl l,h')) :
  s=.zsl∧h.fz=true∧h'=h∧∃e i new n new',P.underlying t=some (.slice e)∧P.info? e=some i∧srcCells h i.size x=some (new,n)∧keepL new=some new'∧(new'.length=n*i.size∧aI P e i.size i.bytes n=true)∧l=chunk i.size n new':=by
 have gr:∀ {h:H} {e sz bytes old new need} {l:List (List EVal)} {h':H},eGrow P h e sz bytes old new need≠some (.lsl l,h'):=fun he=>by
  unfold eGrow at he
  split at he
  · simp at he
  · cases he
 unfold eAppend at he
 split at he
 · rename_i e hu
   split at he
   · rename_i i hi
     split at he
     · rename_i new n hs
       split at he
       · split at he
         · simp at he
         · exact absurd he gr
       · unfold eN at he
         split at he
         · split at he
           · simp at he
           · exact absurd he gr
         · rename_i hf
           · split at he
             · rename_i new' hk
               split at he
               · rename_i hc
                 simp only [Oi,Prod.mk.injEq,EVal.lsl.injEq]at he
                 exact⟨rfl,hf,he.2.symm,e,i,new,n,new',hu,hi,hs,hk,hc,he.1.symm⟩
               · cases he
             · cases he
       · unfold f6 at he
         repeat' (split at he)
         all_goals first|(cases he;done)|(simp at he;done)
       · unfold eAppendX at he
         split at he
         · split at he
           · simp at he
           · cases he
         · split at he
           · exact absurd he gr
           · cases he
       · unfold eAppendS eAppendS' at he
         repeat' (split at he)
         all_goals first|(cases he;done)|(simp at he;done)|exact absurd he gr
       · unfold eAppendG at he
         repeat' (split at he)
         all_goals first|(cases he;done)|(simp at he;done)
       · cases he
     · cases he
   · cases he
 · cases he
theorem oM {h h':H}{t:TypeId}{s x:EVal}{l:List (List EVal)}:iJ P h t s x≠some (.lsl l,h'):=fun he=>by
 unfold iJ eGrow at he
 repeat' (split at he)
 all_goals first|(cases he;done)|(simp at he;done)
theorem tW {h h':H}{ts:List TypeId}{args:List EVal}{v:EVal}(hv:v.kept=true) (he:eBuiltin P h .append ts args=some (v,h')):h'=h:=by
 obtain⟨l,rfl⟩:=EVal.kept_lsl hv
 unfold eBuiltin at he
 simp only at he
 split at he
 · split at he
   · exact(lD he).2.2.1
   · exact(lD he).2.2.1
   · exact absurd he oM
   · cases he
 · cases he
theorem jJ {h h' : H} {t:T EVal}{o:Oper}{v:EVal}(hp:isStill o h' v=true) (he:eOp P g h t o=some (.val v h')):h'=h:=by
 unfold isStill at hp
 split at hp
 · rename_i ty len parts hop
   unfold eOp at he
   rw [hop]at he
   simp only at he
   unfold eBuildSlice at he
   split at he
   · split at he
     · unfold eBuildSlice' at he
       split at he
       · split at he
         · split at he
           · rename_i hfz
             simp only [Oi,EOut.val.injEq]at he
             obtain⟨_,rfl⟩:=he
             have:h.fz=true:=hp
             rw [hfz]at this;cases this
           · split at he
             · simp only [Oi,EOut.val.injEq]at he
               exact he.2.symm
             split at he
             · split at he
               · simp only [Oi,EOut.val.injEq]at he
                 exact he.2.symm
               · cases he
             · cases he
         · cases he
       · cases he
     · cases he
   · cases he
 · rename_i c hop
   split at hp
   · rename_i hc
     unfold eOp at he
     rw [hop]at he
     simp only [eCall]at he
     split at he
     · cases he
     · rw [hc]at he
       simp only [eCallB]at he
       split at he
       · rename_i v1 h1 hq
         simp only [Oi,EOut.val.injEq]at he
         obtain⟨rfl,rfl⟩:=he
         exact tW hp hq
       · cases he
   · exact qL hp he
 · exact qL hp he
end
end Go.Ev
namespace Go.Ev
open Go.RowKit
section
variable {α:Type}
def fW (S:Nat→Bool) (f:aC→Option α):Nat→List aC→α→α
 | _,[],b=>b
 | k,x::l,b=>fW S f (k+1) l (if S k=true then(f x).getD b else b)
def oP (f:aC→Option α):List aC→α→α
 | [],b=>b
 | x::l,b=>oP f l ((f x).getD b)
def cD (S:Nat→Bool) (i:Nat):Nat→Bool:=fun j=>if j=i then true else S j
variable {S:Nat→Bool}{f:aC→Option α}
theorem eA:∀ {l:List aC}{k:Nat}{b:α},(∀j y,l[j]? = some y→(f y).isSome=true→S (k+j)=false)→fW S f k l b=b
 | [],_,_,_=>rfl
 | x :: l,k,b,h=>by
   have h0:=h 0 x rfl
   simp only [fW]
   have:(if S k=true then(f x).getD b else b)=b:=by
    split
    · rename_i hs
      cases hf:f x with
      | none=>rfl
      | some v=>rw [hf]at h0;have:=h0 rfl;simp [hs]at this
    · rfl
   rw [this]
   exact eA fun j y hj hy=>by have:=h (j+1) y (by simpa using hj) hy;rwa [show k+(j+1)=k+1+j from by omega]at this
theorem d9:∀ {l:List aC}{k i:Nat}{b:α},(∀j y,l[j]? = some y→(f y).isSome=true→(S (k+j)=true↔j<i))→fW S f k l b=oP f (l.take i) b
 | [],_,_,_,_=>by simp [fW,oP]
 | x :: l,k,0,b,h=>by
   rw [List.take_zero]
   exact eA fun j y hj hy=>by
    have:=h j y hj hy
    simp at this;exact this
 | x :: l,k,i+1,b,h=>by
   simp only [fW,List.take_succ_cons,oP]
   have h0:=h 0 x rfl
   have:(if S k=true then(f x).getD b else b)=(f x).getD b:=by
    cases hf:f x with
    | none=>simp
    | some v=>rw [hf]at h0;have:=(h0 rfl).2 (by omega);simp at this;simp [this]
   rw [this]
   exact d9 fun j y hj hy=>by
    have:=h (j+1) y (by simpa using hj) hy
    rw [show k+(j+1)=k+1+j from by omega]at this
    rw [this];omega
theorem eB:∀ {l:List aC}{k n:Nat}{b:α},n<k→fW (cD S n) f k l b=fW S f k l b
 | [],_,_,_,_=>rfl
 | x::l,k,n,b,h=>by
   simp only [fW]
   have:cD S n k=S k:=by unfold cD;rw [if_neg (by omega)]
   rw [this,eB (by omega)]
theorem fV:∀ {l:List aC}{k i:Nat}{b:α}{x:aC},l[i]? = some x→f x=none→fW (cD S (k+i)) f k l b=fW S f k l b
 | [],_,_,_,_,h,_=>by simp at h
 | y::l,k,0,b,x,h,hx=>by
   simp only [List.getElem?_cons_zero,Oi]at h;subst h
   simp only [fW,hx,Option.getD_none,ite_self,Nat.add_zero]
   exact eB (by omega)
 | y::l,k,i+1,b,x,h,hx=>by
   simp only [fW]
   have:cD S (k+(i+1)) k=S k:=by unfold cD;rw [if_neg (by omega)]
   rw [this,show k+(i+1)=k+1+i from by omega]
   exact fV (by simpa using h) hx
theorem eK:∀ {l:List aC}{k i:Nat}{b:α}{x:aC}{v:α},l[i]? = some x→f x=some v→(∀j y,l[j]? = some y→(f y).isSome=true→S (k+j)=true→j<i)→fW (cD S (k+i)) f k l b=v
 | [],_,_,_,_,_,h,_,_=>by simp at h
 | y :: l,k,0,b,x,v,h,hx,hl=>by
   simp only [List.getElem?_cons_zero,Oi]at h;subst h
   simp only [fW,hx,Option.getD_some,Nat.add_zero]
   have:cD S k k=true:=by simp [cD]
   rw [this,if_pos rfl,eB (by omega)]
   exact eA fun j y hj hy=>by
    have:=hl (j+1) y (by simpa using hj) hy
    rw [show k+(j+1)=k+1+j from by omega]at this
    cases hs:S (k+1+j)with
    | false=>rfl
    | true=>have:=this hs;omega
 | y :: l,k,i+1,b,x,v,h,hx,hl=>by
   simp only [fW]
   rw [show k+(i+1)=k+1+i from by omega]
   exact eK (by simpa using h) hx fun j y hj hy hs=>by
    have:=hl (j+1) y (by simpa using hj) hy
    rw [show k+(j+1)=k+1+j from by omega]at this
    have:=this hs;omega
end
def wS (s:Nat) (x:aC):Option (Option EVal):=if x.o.dst=some s then some (some x.v)else none
def wH (x:aC):Option H:=x.act
section
variable {P:Program}{g:G}{K:aH}{r:Rec}{ops:Array Oper}
inductive Trace (P:Program) (g:G) (K:aH) (r:Rec) (ops:Array Oper):List aC→EFr→H→EFr→H→Prop
 | nil (f:EFr) (h:H):Trace P g K r ops [] f h f h
 | cons (o:Oper) (f:EFr) (h:H) (v:EVal) (a:Option H) (st:List aC) (f':EFr) (h':H) (hd:mG o f.sz=true)
   (he:cX P g K r o (aB ops o f) h (wantedE ops (aB ops o f) o)=some (v,a)) (ht:Trace P g K r ops st (f.putd o.dst v) (a.getD h) f' h') :
   Trace P g K r ops (⟨o,f,v,h,a⟩::st) f h f' h'
theorem dD:∀ {l:List Oper}{f:EFr}{h:H}{st:List aC}{f':EFr}{h':H},eO P g K r ops l f h=some (st,f',h')→Trace P g K r ops st f h f' h'∧st.map (·.o)=l
 | [],f,h,st,f',h',he=>by
   have he:some ([],f,h)=some (st,f',h'):=he
   simp only [Oi,Prod.mk.injEq]at he
   obtain⟨rfl,rfl,rfl⟩:=he
   exact⟨.nil _ _,rfl⟩
 | o :: l, f,h,st,f',h',he=>by
   have he:(match mG o f.sz with
    | false=>none
    | true=>match cX P g K r o (aB ops o f) h (wantedE ops (aB ops o f) o)with
      | some (v,none)=>rK ⟨o,f,v,h,none⟩ (eO P g K r ops l (f.putd o.dst v) h)
      | some (v,some h')=>rK ⟨o,f,v,h,some h'⟩ (eO P g K r ops l (f.putd o.dst v) h')
      | none=>none)=some (st,f',h'):=he
   split at he
   · cases he
   · rename_i hd
     split at he
     · rename_i v hv
       cases hg:eO P g K r ops l (f.putd o.dst v) h with
       | none=>rw [hg]at he;cases he
       | some q=>
         obtain⟨st1,f1,h1⟩:=q
         rw [hg]at he
         simp only [rK,Oi,Prod.mk.injEq]at he
         obtain⟨rfl,rfl,rfl⟩:=he
         obtain⟨ht,hm⟩:=dD hg
         exact⟨.cons _ _ _ _ _ _ _ _ hd hv ht,by simp [hm]⟩
     · rename_i v h2 hv
       cases hg:eO P g K r ops l (f.putd o.dst v) h2 with
       | none=>rw [hg]at he;cases he
       | some q=>
         obtain⟨st1,f1,h1⟩:=q
         rw [hg]at he
         simp only [rK,Oi,Prod.mk.injEq]at he
         obtain⟨rfl,rfl,rfl⟩:=he
         obtain⟨ht,hm⟩:=dD hg
         exact⟨.cons _ _ _ _ _ _ _ _ hd hv ht,by simp [hm]⟩
     · cases he
theorem z6 (f:EFr) (d:Option Tmp) (v:EVal):(f.putd d v).sz=f.sz:=by
 unfold EFr.putd
 cases d with
 | none=>rfl
 | some i=>simp only [Bool.cond_eq_ite];split<;>rfl
theorem sP (f:EFr) (d:Option Tmp) (v:EVal):(f.putd d v).defers=f.defers∧(f.putd d v).round=f.round:=by
 unfold EFr.putd
 cases d with
 | none=>exact⟨rfl,rfl⟩
 | some i=>simp only [Bool.cond_eq_ite];split<;>exact⟨rfl,rfl⟩
theorem putd_get {f:EFr}{o:Oper}{v e:EVal}{s:Nat}(hd:mG o f.sz=true) (hg:(f.putd o.dst v).tmps.get s=some e):(o.dst=some s∧e=v)∨(o.dst≠some s∧f.tmps.get s=some e):=by
 unfold mG at hd
 unfold EFr.putd at hg
 split at hd
 · rename_i d hdst
   rw [hdst]at hg
   simp only [hd,cond_true]at hg
   rcases T.get_set _ _ _ _ hg with⟨rfl,h1⟩ | ⟨h1,h2⟩
   · cases h1;exact .inl ⟨hdst,rfl⟩
   · exact .inr ⟨by rw [hdst];intro h;cases h;exact h1 rfl,h2⟩
 · rename_i hdst
   rw [hdst]at hg
   exact .inr ⟨(by rw [hdst];exact fun h=>(by cases h)),hg⟩
theorem Trace.rest {st:List aC}{f f':EFr}{h h':H}(T:Trace P g K r ops st f h f' h'):f'.sz=f.sz∧f'.defers=f.defers∧f'.round=f.round:=by
 induction T with
 | nil f h=>exact⟨rfl,rfl,rfl⟩
 | cons o f h v a st f' h' hd he ht ih=>
   rw [z6,(sP _ _ _).1,(sP _ _ _).2]at ih;exact ih
theorem Trace.at {st:List aC}{f f':EFr}{h h':H}(T:Trace P g K r ops st f h f' h'):∀ {i:Nat}{x:aC},st[i]? = some x →
  mG x.o f.sz=true∧cX P g K r x.o (aB ops x.o x.fr) x.h (wantedE ops (aB ops x.o x.fr) x.o)=some (x.v,x.act) ∧
  x.h=oP wH (st.take i) h∧∀s b,(∀e,f.tmps.get s=some e→b=some e)→∀e,x.fr.tmps.get s=some e→oP (wS s) (st.take i) b=some e:=by
 induction T with
 | nil f h=>intro i x hx;simp at hx
 | cons o f h v a st f' h' hd he ht ih=>
   intro i x hx
   cases i with
   | zero=>
     simp only [List.getElem?_cons_zero,Oi]at hx;subst hx
     exact⟨hd,he,rfl,fun s b hb e he=>hb e he⟩
   | succ i=>
     obtain⟨h1,h2,h3,h4⟩:=ih (by simpa using hx)
     refine⟨by rwa [z6]at h1,h2,?_,fun s b hb e he=>?_⟩
     · rw [h3];rfl
     · simp only [List.take_succ_cons,oP]
       refine h4 s _ (fun e' he'=>?_) e he
       rcases putd_get hd he' with⟨h5,rfl⟩ | ⟨h5,h6⟩
       · simp [wS,h5]
       · simp [wS,h5,hb _ h6]
theorem Trace.fin {st:List aC}{f f':EFr}{h h':H}(T:Trace P g K r ops st f h f' h'):h'=oP wH st h∧∀s b,(∀e,f.tmps.get s=some e→b=some e)→∀e,f'.tmps.get s=some e→oP (wS s) st b=some e:=by
 induction T with
 | nil f h=>exact⟨rfl,fun s b hb e he=>hb e he⟩
 | cons o f h v a st f' h' hd he ht ih=>
   obtain⟨h3,h4⟩:=ih
   refine⟨by rw [h3];rfl,fun s b hb e he=>?_⟩
   simp only [oP]
   refine h4 s _ (fun e' he'=>?_) e he
   rcases putd_get hd he' with⟨h5,rfl⟩ | ⟨h5,h6⟩
   · simp [wS,h5]
   · simp [wS,h5,hb _ h6]
theorem lE:∀ {l:List aC}{k:Nat}(j:Nat) (y:aC),l[j]? = some y→y.act.isSome=true→k+j∈actsOf l k
 | [],_,j,y,h,_=>by simp at h
 | ⟨xo,xf,xv,xh,none⟩::l,k,0,y,h,ha=>by
   simp only [List.getElem?_cons_zero,Oi]at h;subst h;cases ha
 | ⟨xo,xf,xv,xh,some a⟩::l,k,0,y,h,ha=>by
   have e:actsOf (⟨xo,xf,xv,xh,some a⟩::l) k=k::actsOf l (k+1):=rfl
   rw [e];exact .head _
 | ⟨xo,xf,xv,xh,none⟩::l,k,j+1,y,h,ha=>by
   have:=lE (k:=k+1) j y (by simpa using h) ha
   rw [show k+1+j=k+(j+1)from by omega]at this
   exact this
 | ⟨xo,xf,xv,xh,some a⟩::l,k,j+1,y,h,ha=>by
   have:=lE (k:=k+1) j y (by simpa using h) ha
   rw [show k+1+j=k+(j+1)from by omega]at this
   have e:actsOf (⟨xo,xf,xv,xh,some a⟩::l) k=k::actsOf l (k+1):=rfl
   rw [e];exact .tail _ this
theorem fA {A:List Nat} {i:Nat}:∀ {l:List Nat},quick A i l=true→∀a∈l,(a<i→hasB (nthM A i) a=true)∧(i<a→hasB (nthM A a) i=true)
 | [],_,a,h=>by cases h
 | x :: l, hq,a,h=>by
   have e:quick A i (x::l)=bif Nat.beq x i then quick A i l else bif(bif Nat.blt x i then hasB (nthM A i) x else hasB (nthM A x) i)then quick A i l else false:=rfl
   rw [e]at hq
   cases hxi:Nat.beq x i with
   | true=>
     rw [hxi,cond_true]at hq
     have hxi:=Nat.eq_of_beq_eq_true hxi
     rcases List.mem_cons.1 h with rfl|h
     · exact⟨fun _=>by omega,fun _=>by omega⟩
     · exact fA hq a h
   | false =>
     rw [hxi,cond_false]at hq
     cases hlt:Nat.blt x i with
     | true =>
       rw [hlt,cond_true]at hq
       cases hb:hasB (nthM A i) x with
       | false=>rw [hb,cond_false]at hq;cases hq
       | true=>
         rw [hb,cond_true]at hq
         rcases List.mem_cons.1 h with rfl|h
         · have:a<i:=by simpa using hlt
           exact⟨fun _=>hb,fun _=>by omega⟩
         · exact fA hq a h
     | false =>
       rw [hlt,cond_false]at hq
       cases hb:hasB (nthM A x) i with
       | false=>rw [hb,cond_false]at hq;cases hq
       | true=>
         rw [hb,cond_true]at hq
         rcases List.mem_cons.1 h with rfl|h
         · have:¬a<i:=by
            intro h
            have:Nat.blt a i=true:=by simpa using h
            rw [hlt]at this;cases this
           exact⟨fun _=>by omega,fun _=>hb⟩
         · exact fA hq a h
theorem oK {A:List Nat}{acts:List Nat}:∀ {l:List Nat},gA A acts l=true→∀a∈l,quick A a acts=true
 | [],_,a,h=>by cases h
 | x :: l,hq,a,h=>by
   have e:gA A acts (x::l)=bif quick A x acts then gA A acts l else false:=rfl
   rw [e,Bool.cond_eq_ite]at hq
   split at hq
   · rename_i h1
     rcases List.mem_cons.1 h with rfl|h
     · exact h1
     · exact oK hq a h
   · cases hq
theorem jU {A:List Nat}{all:List aC}{h0:H}{acts:List Nat}:∀ {l:List aC}{k:Nat},dA P g K ops A all h0 acts l k=true→∀i x,l[i]? = some x→fC ops x=true→quick A (k+i) acts=true∨e8 P g K ops A (k+i) x 0 h0 all=true
 | [],_,_,i,x,h,_=>by simp at h
 | z :: l, k,hk,i,x,h,hn=>by
   have e:dA P g K ops A all h0 acts (z::l) k=bif(bif quick A k acts then true else bif fC ops z then e8 P g K ops A k z 0 h0 all else true)then dA P g K ops A all h0 acts l (k+1)else false:=rfl
   rw [e,Bool.cond_eq_ite]at hk
   split at hk
   · rename_i h1
     cases i with
     | zero=>
       simp only [List.getElem?_cons_zero,Oi]at h;subst h
       cases hqk:quick A k acts with
       | true=>exact .inl rfl
       | false=>
         rw [hqk,cond_false,hn,cond_true]at h1
         exact .inr h1
     | succ i=>
       have:=jU hk i x (by simpa using h) hn
       rwa [show k+1+i=k+(i+1)from by omega]at this
   · cases hk
theorem vU {A:List Nat}{st:List aC}{h0:H}(h:t4 P g K ops A st h0 (actsOf st 0)=true) :
  (∀i x,st[i]? = some x→x.act.isSome=true→∀j y,st[j]? = some y→y.act.isSome=true→i<j→hasB (nthM A j) i=true) ∧
  ∀i x,st[i]? = some x→fC ops x=true→(∀j y,st[j]? = some y→y.act.isSome=true→(j<i→hasB (nthM A i) j=true)∧(i<j→hasB (nthM A j) i=true))∨e8 P g K ops A i x 0 h0 st=true:=by
 have hm:∀j y,st[j]? = some y→y.act.isSome=true→j∈actsOf st 0:=fun j y hy ha=>by
  have:=lE (k:=0) j y hy ha
  rwa [Nat.zero_add]at this
 generalize actsOf st 0=acts at h hm
 cases acts with
 | nil=>exact⟨fun i x hx ha=>(by have:=hm i x hx ha;cases this),fun i x hx hn=>.inl fun j y hy ha=>(by have:=hm j y hy ha;cases this)⟩
 | cons a l=>
   have h:(bif gA A (a::l) (a::l)then dA P g K ops A st h0 (a::l) st 0 else false)=true:=h
   rw [Bool.cond_eq_ite]at h
   split at h
   · rename_i h1
     refine⟨fun i x hx ha j y hy hya hij=>(fA (oK h1 i (hm i x hx ha)) j (hm j y hy hya)).2 hij,fun i x hx hn=>?_⟩
     have:=jU h i x hx hn
     rw [Nat.zero_add]at this
     rcases this with h2|h2
     · exact .inl fun j y hy ha=>fA h2 j (hm j y hy ha)
     · exact .inr h2
   · cases h
theorem g8 {A:List Nat} {S:Nat→Bool}{i:Nat}{x:aC}(h1:∀b,hasB (nthM A i) b=true→S b=true) (h2:∀b,S b=true→¬hasB (nthM A b) i=true) :
  ∀ {l:List aC} {k:Nat} {h:H},(∀a y,l[a]? = some y→y.act.isSome=true→∀b z,l[b]? = some z→z.act.isSome=true→a<b→S (k+b)=true→S (k+a)=true) →
   e8 P g K ops A i x k h l=true→aY P g K ops x (fW S wH k l h)=true
 | [],k,h,_,hv=>hv
 | y :: l, k,h,hc,hv=>by
   have hc':∀a y,l[a]? = some y→y.act.isSome=true→∀b z,l[b]? = some z→z.act.isSome=true→a<b→S (k+1+b)=true→S (k+1+a)=true:=fun a y' ha hy b z hb hz hab hs=>by
    have:=hc (a+1) y' (by simpa using ha) hy (b+1) z (by simpa using hb) hz (by omega)
    rw [show k+(b+1)=k+1+b from by omega,show k+(a+1)=k+1+a from by omega]at this
    exact this hs
   simp only [e8]at hv
   simp only [fW]
   split at hv
   · rename_i hn
     have:(if S k=true then(wH y).getD h else h)=h:=by simp [wH,hn]
     rw [this]
     exact g8 h1 h2 hc' hv
   · rename_i h' hn
     cases hs:S k with
     | true =>
       have:(if true=true then(wH y).getD h else h)=h':=by simp [wH,hn]
       rw [this]
       simp only [Bool.cond_eq_ite]at hv
       split at hv
       · exact g8 h1 h2 hc' hv
       · split at hv
         · rename_i hm;exact absurd hm (h2 _ hs)
         · simp only [Bool.and_eq_true]at hv
           exact g8 h1 h2 hc' hv.2
     | false=>
       have:(if false=true then(wH y).getD h else h)=h:=by simp
       rw [this]
       have hf:fW S wH (k+1) l h=h:=eA fun j z hj hz=>by
        cases hq:S (k+1+j)with
        | false=>rfl
        | true=>
          have:=hc 0 y rfl (by simp [hn]) (j+1) z (by simpa using hj) hz (by omega) (by rwa [show k+(j+1)=k+1+j from by omega])
          simp [hs]at this
       rw [hf]
       simp only [Bool.cond_eq_ite]at hv
       split at hv
       · rename_i hm;have:=h1 _ hm;rw [hs]at this;cases this
       · split at hv
         · exact hv
         · simp only [Bool.and_eq_true]at hv;exact hv.1
end
end Go.Ev
namespace Go.Ev
open Go.RowKit
def Loc.more (ρ:Loc) (N:Nat) (φ:Nat→Option (List Value)):Loc:={ ρ with fro:=fun b=>if b<N then ρ.fro b else φ b }
def KOK (P:Program) (B0:Nat) (W0:eF) (K:aH):Prop:=
 ∀f args v,K f args=some v→∀(vs:Array Value) (fro:Nat→Option (List Value)) (w:World),VsRel ⟨fun _=>none,fro,fun _ _=>none⟩ args vs.toList→FzOK fro w→Below B0 W0.w w→B0≤w.heap.size →
  Calls P f vs w fun e w'=>∃u φ,e=.returned u∧VRel (Loc.more ⟨fun _=>none,fro,fun _ _=>none⟩ w.heap.size φ) v u∧Below w.heap.size w w'∧FzOK (fun b=>if b<w.heap.size then fro b else φ b) w'
section
variable {P:Program}{B0:Nat}{W0:eF}{g:G}{K:aH}{r:Rec}
theorem Loc.le_more {ρ:Loc}{w:World}(hF:FzOK ρ.fro w) (φ:Nat→Option (List Value)):ρ.le (ρ.more w.heap.size φ):=
 ⟨fun _ _ h=>h,fun b pre h=>⟨[],by simp [Loc.more,FzOK.lt hF h,h]⟩,fun _ _ _ h=>h⟩
theorem HRel.more {ρ:Loc}{h:H}{w w':World}(R:HRel P B0 W0 ρ h w) (hw:Below w.heap.size w w') {φ:Nat→Option (List Value)}(hF:FzOK (fun b=>if b<w.heap.size then ρ.fro b else φ b) w') :
  HRel P B0 W0 (ρ.more w.heap.size φ) h w':=by
 have R1:=R.grow hw
 have hle:=Loc.le_more R.fz φ
 refine⟨R1.below,R1.base,R1.dom,R1.lo,R1.inj,fun id o hg=>?_,hF,fun b pre hb id C o hg hr=>?_,fun b hb=>?_,R1.mdom,fun id n e hk=>?_,R1.tnew,R1.tinj⟩
 · obtain ⟨b,C,h1,h2⟩:=R1.objs id o hg
   exact⟨b,C,h1,h2.mono hle⟩
 · have hlt:=(R.lo id b C hr).2
   have:ρ.fro b=some pre:=by simpa [Loc.more,hlt]using hb
   exact R.free b pre this id C o hg hr
 · have:b<w.heap.size:=Nat.lt_of_lt_of_le hb R.base
   show(if b<w.heap.size then ρ.fro b else φ b)=_
   rw [if_pos this];exact R.fz0 b hb
 · obtain ⟨x,h1,h2⟩:=R1.toks id n e hk
   refine⟨x,h1,fun b C hx=>?_⟩
   have hb:=h2 b C hx
   obtain⟨x',h1',h2'⟩:=R.toks id n e hk
   obtain⟨p,hp⟩:=(h2' b C (by rw [h1]at h1';cases h1';exact hx)).fro
   exact hb.keep (by show(if b<w.heap.size then ρ.fro b else φ b)=_;rw [if_pos (FzOK.lt R.fz hp)]) rfl
def bU (w:World):Nat→Option (List Value):=fun b=>match w.heap[b]? with
 | some (.cells cs _ _)=>some cs.toList
 | _=>none
theorem nX (w:World):FzOK (bU w) w:=fun b pre h=>by
 unfold bU at h
 split at h
 · rename_i cs e m hw
   cases h
   exact⟨cs,e,m,hw,[],by simp⟩
 · cases h
theorem aqW {ρ:Loc}{w:World}(hF:FzOK ρ.fro w):ρ.fz.le ⟨fun _=>none,bU w,fun _ _=>none⟩:=
 ⟨fun _ _ h=>(by cases h),fun b pre h=>by
  obtain⟨cs,e,m,h1,more,h2⟩:=hF b pre h
  exact⟨more,by simp [bU,h1,h2]⟩,fun _ _ _ h=>(by cases h)⟩
theorem uX {ρ:Loc}{v v':EVal}{u:Value}(h:VRel ρ v u) (hk:keepA v=some v'):VRel ρ.fz v' u:=by
 unfold keepA at hk
 split at hk
 · rename_i l
   cases hl:keepL l with
   | none=>rw [hl]at hk;cases hk
   | some l'=>
     rw [hl]at hk;cases hk
     cases h with|agg _ cs hc=>exact .agg _ _ (aZ hc hl).1
 · exact(fS h hk).1
theorem nP {ρ:Loc}:∀ {l l':List EVal}{us:List Value},VsRel ρ l us→keepT l=some l'→VsRel ρ.fz l' us
 | [],l',us,h,hk=>by
   simp only [keepT,Oi]at hk;subst hk
   cases h;exact .nil
 | v :: l,l',us,h,hk=>by
   simp only [keepT]at hk
   split at hk
   · rename_i a b ha hb
     simp only [Oi]at hk;subst hk
     cases h with
     | cons _ u _ us h hs=>exact .cons _ _ _ _ (uX h ha) (nP hs hb)
   · cases hk
theorem iX {ρ:Loc}{v v':EVal}{u:Value}(h:VRel ρ v u) (hk:keepV v=some v'):VRel ρ.fz v' u:=by
 unfold keepV at hk
 split at hk
 · rename_i l
   cases hl:keepL l with
   | none=>rw [hl]at hk;cases hk
   | some l'=>
     rw [hl]at hk;cases hk
     cases h with|agg _ cs hc=>exact .agg _ _ (aZ hc hl).1
 · rename_i l
   cases hl:keepT l with
   | none=>rw [hl]at hk;cases hk
   | some l'=>
     rw [hl]at hk;cases hk
     cases h with|tup _ cs hc=>exact .tup _ _ (nP hc hl)
 · exact(fS h hk).1
theorem axG {ρ : Loc} {h:H}{w:World}(R:HRel P B0 W0 ρ h w) {v v':EVal}{u:Value}(hv:VRel ρ v u) (hk:argB P h v=some v'):VRel ⟨fun _=>none,bU w,fun _ _=>none⟩ v' u:=by
 unfold argB at hk
 split at hk
 · rename_i id off len cap
   split at hk
   · rename_i cs e lo hi sl hg
     split at hk
     · rename_i sz hsz
       split at hk
       · rename_i r hr
         split at hk
         · rename_i r' hr'
           split at hk
           rotate_left
           · cases hk
           rename_i hcond
           obtain⟨hcap,hsz0⟩:=hcond
           cases hk
           unfold takeN at hr
           simp only at hr
           split at hr
           · rename_i hl
             cases hr
             have key:∀(b C c':Nat),ρ id=some (b,C)→len≤c'→VRel ⟨fun _=>none,bU w,fun _ _=>none⟩ (.lsl (chunk sz len r')) (.slice (some ⟨b,off,none⟩) len c'):=by
              intro b C c' hb hc
              obtain⟨b',C',hb',cv,hw,hrel,_⟩:=R.objs _ _ hg
              rw [hb]at hb';cases hb'
              have h1:=(hrel.drop off).take (len*sz)
              obtain⟨h2,_⟩:=aZ h1 hr'
              have h3:r'.length=len*sz:=by rw [h2.length,←h1.length,hl]
              obtain⟨uss,c1,c2,c3,c4⟩:=cO sz len r' _ h2 h3
              by_cases h0:len=0
              · subst h0;exact .lsl0 _ _
              have hlen:(chunk sz len r').length=len:=aN _ _ _
              have hfa:bU w b=some cv.toList:=by simp [bU,hw]
              by_cases hoff:off≤cv.toList.length
              · have:=VRel.lsl (ρ:=⟨fun _=>none,bU w,fun _ _=>none⟩) (chunk sz len r') uss b off c' sz cv.toList (((cv.toList.drop off).drop uss.flatten.length)) hfa (c1.mono (aqW R.fz)) ?_ hoff c3 (by rw [hlen];exact hc)
                · rw [hlen]at this;exact this
                · have hpre:uss.flatten=(cv.toList.drop off).take uss.flatten.length:=by
                   conv=>lhs;rw [c2]
                   have hl3:uss.flatten.length=len*sz:=by rw [cW uss c3,c4]
                   rw [hl3,List.drop_take,List.take_take]
                   have hl2:=hl
                   simp only [List.length_take,List.length_drop]at hl2
                   rw [Nat.min_eq_left (by omega)]
                  conv=>lhs;rw [←List.take_append_drop uss.flatten.length (cv.toList.drop off)]
                  rw [←hpre]
              · have hcl:=hrel.length
                simp only [List.length_take,List.length_drop,Array.length_toList]at hcl hl hoff
                have:0<len*sz:=Nat.mul_pos (by omega) (by omega)
                omega
             cases hv with
             | slice _ _ _ c b C hb=>exact key _ _ _ hb (by simpa [capOK]using hcap)
             | slack _ _ _ _ c b C hb hc hn=>exact key _ _ _ hb hn
           · cases hr
         · cases hk
       · cases hk
     · cases hk
   · cases hk
 · exact(iX hv hk).mono (aqW R.fz)
mutual
theorem VRel.flat {ρ:Loc}:∀ {e:EVal}{v:Value},flat e=true→VRel ρ e v→VRel Loc.nil e v
 | .unk,_,_,h=>by cases h;exact .unk _ _
 | .bool _,_,_,h=>by cases h;exact .bool _
 | .int _ _,_,_,h=>by cases h;exact .int _ _
 | .str _,_,_,h=>by cases h with|str _ s h=>exact .str _ s h
 | .nilp,_,_,h=>by cases h;exact .nilp
 | .nilslice,_,_,h=>by cases h;exact .nilslice
 | .nilmap,_,_,h=>by cases h;exact .nilmap
 | .nilfunc,_,_,h=>by cases h;exact .nilfunc
 | .nilif,_,_,h=>by cases h;exact .nilif
 | .agg l,_,hf,h=>by cases h with|agg _ cs h=>exact .agg _ _ (VsRel.flat (by simpa [Go.Ev.flat]using hf) h)
 | .tup l,_,hf,h=>by cases h with|tup _ cs h=>exact .tup _ _ (VsRel.flat (by simpa [Go.Ev.flat]using hf) h)
theorem VsRel.flat {ρ:Loc}:∀ {es:List EVal}{vs:List Value},flatL es=true→VsRel ρ es vs→VsRel Loc.nil es vs
 | [],_,_,h=>by cases h;exact .nil
 | e::es,_,hf,h=>by
   simp only [flatL,Bool.and_eq_true]at hf
   cases h with|cons _ v _ vs h hs=>exact .cons _ _ _ _ (VRel.flat hf.1 h) (VsRel.flat hf.2 hs)
end
theorem tV {ρ:Loc}{h:H}{w:World}(R:HRel P B0 W0 ρ h w):∀ {l l':List EVal}{us:List Value},VsRel ρ l us→argsB P h l=some l'→VsRel ⟨fun _=>none,bU w,fun _ _=>none⟩ l' us
 | [],_,_,hv,hk=>by
   simp only [argsB,Oi]at hk;subst hk
   cases hv;exact .nil
 | v :: l,_,_,hv,hk=>by
   simp only [argsB]at hk
   split at hk
   · rename_i a b ha hb
     cases hk
     cases hv with|cons _ u _ us h1 h2=>exact .cons _ _ _ _ (axG R h1 ha) (tV R h2 hb)
   · cases hk
theorem xM {ρ:Loc}{h:H}:∀ {l l':List EVal}{us:List Value},¬l.any isLent=true→VsRel ρ l us→argsB P h l=some l'→VsRel ρ.fz l' us
 | [],_,_,_,hv,hk=>by
   simp only [argsB,Oi]at hk;subst hk
   cases hv;exact .nil
 | v :: l,_,_,hn,hv,hk=>by
   simp only [argsB]at hk
   simp only [List.any_cons,Bool.or_eq_true,not_or]at hn
   split at hk
   · rename_i a b ha hb
     cases hk
     cases hv with
     | cons _ u _ us h1 h2=>
       refine .cons _ _ _ _ ?_ (xM hn.2 h2 hb)
       unfold argB at ha
       split at ha
       · exact absurd rfl hn.1
       · exact iX h1 ha
   · cases hk
theorem fT (hK:KOK P B0 W0 K) {ρ:Loc}{h:H}{w:World}(R:HRel P B0 W0 ρ h w) {fn:FuncId}{args:List EVal}{v:EVal}(hk:kcall P K h fn args=some v) {vs:Array Value}(hvs:VsRel ρ args vs.toList) :
  Calls P fn vs w fun e w'=>∃u ρ',e=.returned u∧ρ.le ρ'∧VRel ρ' v u∧HRel P B0 W0 ρ' h w':=by
 unfold kcall at hk
 split at hk
 · rename_i ts hts
   split at hk
   · rename_i v1 hv1
     split at hk
     · split at hk
       · rename_i hfl
         cases hk
         refine(hK fn ts v hv1 vs _ w (tV R hvs hts) (nX w) R.below R.base).mono ?_
         rintro e w' ⟨u,φ,rfl,hu,hb,_⟩
         exact⟨u,ρ,rfl,Loc.le_refl _,(hu.flat hfl).mono (aqE ρ),R.grow hb⟩
       · cases hk
     · rename_i hn
       cases hk
       refine(hK fn ts v hv1 vs ρ.fro w (xM hn hvs hts) R.fz R.below R.base).mono ?_
       rintro e w' ⟨u,φ,rfl,hu,hb,hF⟩
       exact⟨u,_,rfl,Loc.le_more R.fz φ,hu.mono (Loc.fz_le (ρ.more w.heap.size φ)),R.more hb hF⟩
   · cases hk
 · cases hk
structure Inv (P:Program) (B0:Nat) (W0:eF) (A:List Nat) (st:List aC) (f:EFr) (h:H) (S:Nat→Bool) (tm:Array Value) (ρ:Loc) (w:World):Prop where
 size:tm.size=f.sz
 slots:∀s e,fW S (wS s) 0 st (f.tmps.get s)=some e→VRel ρ e (tm.getD s undef)
 heap:HRel P B0 W0 ρ (fW S wH 0 st h) w
 closed:∀i,S i=true→∀a,hasB (nthM A i) a=true→S a=true
theorem qA {s:Nat}{y:aC}(h:(wS s y).isSome=true):y.o.dst=some s:=by
 unfold wS at h
 split at h
 · assumption
 · cases h
theorem aq9 (hng:fL P) (G:GRel B0 W0.w g) (S0:bZ P B0 W0 r) (hK:KOK P B0 W0 K) {ops:Array Oper}{A:List Nat}{st:List aC}{f f':EFr}{h h':H}
  (T:Trace P g K r ops st f h f' h') (hst:st.map (·.o)=ops.toList) (hs:bN ops A=true) (hc:t4 P g K ops A st h (actsOf st 0)=true)
  {S:Nat→Bool} {i:Nat} {x:aC} (hx:st[i]? = some x) (hSi:S i=false) (hready:∀j∈cY x.o,S j=true)
  {b:Frame} {tm:Array Value} {d:List Deferred} {k:List Item} {cs:List Frame} {ρ:Loc} {w:World} (I:Inv P B0 W0 A st f h S tm ρ w) (js:List Nat) :
  ∃tm' w' ρ',ρ.le ρ'∧Inv P B0 W0 A st f h (cD S i) tm' ρ' w'∧Steps P (lone (fr b tm d (.inRegion ops (i::js)::k)) cs w) (lone (fr b tm' d (.inRegion ops js::k)) cs w'):=by
 have hoi:ops.toList[i]? = some x.o:=by rw [←hst,List.getElem?_map,hx];rfl
 have ho:ops[i]? = some x.o:=by rw [←Array.getElem?_toList];exact hoi
 have hop:∀ {j:Nat} {y:aC},st[j]? = some y→ops.toList[j]? = some y.o:=fun {j y} hy=>by rw [←hst,List.getElem?_map,hy];rfl
 obtain⟨hA,hP⟩:=dL hs
 obtain⟨hchain,hq⟩:=vU hc
 have hanc:=fJ hA i _ hoi
 rw [Nat.zero_add]at hanc
 have hancS:∀a,hasB (nthM A i) a=true→S a=true:=fun a ha=>by
  rcases hanc.1 a ha with h1|⟨q,hq1,hq2⟩
  · exact hready a h1
  · exact I.closed q (hready q hq1) a hq2
 have hdesc:∀j,S j=true→¬hasB (nthM A j) i=true:=fun j hj hm=>by
  have:=I.closed j hj i hm;rw [hSi]at this;cases this
 have hside:∀j,(j<i→hasB (nthM A i) j=true)→(i<j→hasB (nthM A j) i=true)→(S j=true↔j<i):=fun j h1 h2=>by
  rcases Nat.lt_trichotomy j i with hlt|rfl|hgt
  · simp [hancS _ (h1 hlt),hlt]
  · simp [hSi]
  · have:S j=false:=by
     cases hq:S j with
     | false=>rfl
     | true=>exact absurd (h2 hgt) (hdesc j hq)
    simp [this];omega
 have hwr:∀s,(s∈aX ops x.o∨x.o.dst=some s)→∀j y,st[j]? = some y→y.o.dst=some s→(S j=true↔j<i):=by
  intro s hs j y hy hdst
  refine hside j (fun hlt=>hP j i _ _ (hop hy) hoi hlt ⟨s,.inl ⟨hdst,hs⟩⟩) (fun hgt=>hP i j _ _ hoi (hop hy) hgt ⟨s,?_⟩)
  rcases hs with h1|h1
  · exact .inr ⟨hdst,h1⟩
  · exact .inl ⟨h1,.inr hdst⟩
 have hact:∀j y,st[j]? = some y→y.act.isSome=true→x.act.isSome=true→(S j=true↔j<i):=by
  intro j y hy ha hxa
  exact hside j (fun hlt=>hchain j y hy ha i x hx hxa hlt) (fun hgt=>hchain i x hx hxa j y hy ha hgt)
 obtain⟨hd,he,hh,hg⟩:=T.at hx
 have htrel:∀ {ρ':Loc},ρ.le ρ'→TRel ρ' (aB ops x.o x.fr) tm:=by
  intro ρ' hle s e hs
  obtain⟨h1,h2⟩:=jQ hs
  have h3:=hg s (f.tmps.get s) (fun e h=>h) e h2
  have h4:=d9 (S:=S) (f:=wS s) (l:=st) (k:=0) (i:=i) (b:=f.tmps.get s) (fun j y hy hw=>by
   rw [Nat.zero_add]
   exact hwr s (.inl h1) j y hy (qA hw))
  exact(I.slots s e (by rw [h4];exact h3)).mono hle
 have hERel:ax1 ρ (aB ops x.o x.fr) ({ tmps:=tm,defers:=d }:Act).eval:=TRel.eval (a:={ tmps:=tm,defers:=d }) (htrel (Loc.le_refl _))
 have fin:∀ {v:Value} {w':World} {ρ':Loc},ρ.le ρ'→VRel ρ' x.v v→HRel P B0 W0 ρ' (fW (cD S i) wH 0 st h) w' →
   Steps P (lone (fr b tm d (.inRegion ops (i::js)::k)) cs w) (lone (fr b (kF tm x.o.dst v) d (.inRegion ops js::k)) cs w') →
   ∃tm' w' ρ',ρ.le ρ'∧Inv P B0 W0 A st f h (cD S i) tm' ρ' w'∧Steps P (lone (fr b tm d (.inRegion ops (i::js)::k)) cs w) (lone (fr b tm' d (.inRegion ops js::k)) cs w'):=by
  intro v w' ρ' hle hv hR hs
  refine⟨_,w',ρ',hle,⟨?_,fun s e hs=>?_,hR,fun j hj a ha=>?_⟩,hs⟩
  · rw [←I.size];unfold kF;split<;>simp
  · have h0:wS s x=none→fW (cD S i) (wS s) 0 st (f.tmps.get s)=fW S (wS s) 0 st (f.tmps.get s):=fun hq=>by
     have:=fV (S:=S) (f:=wS s) (k:=0) (b:=f.tmps.get s) hx hq
     rwa [Nat.zero_add]at this
    by_cases hds:x.o.dst=some s
    · have hw:wS s x=some (some x.v):=by simp [wS,hds]
      have:=eK (S:=S) (k:=0) (b:=f.tmps.get s) hx hw (fun j y hy hw hs=>by
       rw [Nat.zero_add]at hs
       exact(hwr s (.inr hds) j y hy (qA hw)).1 hs)
      rw [Nat.zero_add]at this
      rw [this]at hs
      cases hs
      have hlt:s<tm.size:=by
       rw [I.size];unfold mG at hd;rw [hds]at hd;simpa using hd
      rw [hds]
      simp [kF,hlt,hv]
    · rw [h0 (by simp [wS,hds])]at hs
      have:=(I.slots s e hs).mono hle
      unfold kF
      split
      · rename_i q hq
        have hne:q≠s:=fun e=>hds (by rw [hq,e])
        simp only [Array.getD_eq_getD_getElem?]at this ⊢
        rw [Array.getElem?_setIfInBounds_ne hne]
        exact this
      · exact this
  · unfold cD at hj ⊢
    by_cases hji:j=i
    · subst hji
      split
      · rfl
      · exact hancS a ha
    · rw [if_neg hji]at hj
      split
      · rfl
      · exact I.closed j hj a ha
 have same:x.act=none→fW (cD S i) wH 0 st h=fW S wH 0 st h:=fun hn=>by
  have:=fV (S:=S) (f:=wH) (k:=0) (b:=h) hx hn
  rwa [Nat.zero_add]at this
 have turned:∀h2,x.act=some h2→fW S wH 0 st h=x.h∧fW (cD S i) wH 0 st h=h2:=fun h2 hn=>by
  constructor
  · rw [hh]
    exact d9 (fun j y hy ha=>by rw [Nat.zero_add];exact hact j y hy ha (by simp [hn]))
  · have:=eK (S:=S) (f:=wH) (k:=0) (b:=h) hx hn (fun j y hy ha hs=>by
     rw [Nat.zero_add]at hs
     exact(hact j y hy ha (by simp [hn])).1 hs)
    rwa [Nat.zero_add]at this
 have H0:=I.heap
 have callK:∀ {fn:FuncId} {args:List EVal} {v:EVal} {vs:Array Value} {w1:World},kcall P K (fW S wH 0 st h) fn args=some v→w1=w→x.v=v→x.act=none→Region.wanted x.o (yielded ops tm)=true→(∀c,x.o.op≠.defer c)→VsRel ρ args vs.toList →
   (execOp ({ tmps:=tm,defers:=d }:Act).eval x.o).run P w=.ok (.enter fn vs) w1 →
   ∃tm' w' ρ',ρ.le ρ'∧Inv P B0 W0 A st f h (cD S i) tm' ρ' w'∧Steps P (lone (fr b tm d (.inRegion ops (i::js)::k)) cs w) (lone (fr b tm' d (.inRegion ops js::k)) cs w'):=by
  intro fn args v vs w1 hk hw1 hv hn hwant hdef hvs hrun
  subst hw1
  obtain⟨e1,w2,fr1,⟨u,ρ',rfl,hle,hu,hR⟩,hcomes,hfn,hleave⟩:=fT hK H0 hk hvs (fr b tm d (.inRegion ops (i::js)::k)::cs)
  refine fin hle (by rw [hv];exact hu) (by rw [same hn];exact hR) ?_
  refine .head (fN ho hwant hdef hrun) (Steps.trans hcomes (.one ?_))
  rw [←aT ho]
  exact step_leave_returned hleave
 unfold cX at he
 split at he
 ·
   rename_i hwant
   simp only [Oi,Prod.mk.injEq]at he
   obtain⟨hv,ha⟩:=he
   have hw:=aJ (htrel (Loc.le_refl _)) hwant
   exact fin (Loc.le_refl _) (by rw [←hv];exact bA _) (by rw [same ha.symm];exact H0) (.one (hJ ho hw))
 · rename_i hwant
   have hw:=aJ (htrel (Loc.le_refl _)) hwant
   have value:∀ {h1 h2:H},eOp P g h1 (aB ops x.o x.fr) x.o=some (.val x.v h2)→fW S wH 0 st h=h1→fW (cD S i) wH 0 st h=h2 →
     ∃tm' w' ρ',ρ.le ρ'∧Inv P B0 W0 A st f h (cD S i) tm' ρ' w'∧Steps P (lone (fr b tm d (.inRegion ops (i::js)::k)) cs w) (lone (fr b tm' d (.inRegion ops js::k)) cs w'):=by
    intro h1 h2 hv e1 e2
    rw [e1]at H0
    obtain⟨w',ρ',hle,R',hres⟩:=bG hng G H0 hERel hv
    rcases hres with⟨u,hrun,hvr⟩ | ⟨hrun,hund⟩
    · exact fin hle hvr (by rw [e2];exact R') (.one (bX ho hw (aD hv) hrun))
    · exact fin hle (by rw [hund];exact bA _) (by rw [e2];exact R') (.one (jL ho hw (aD hv) hrun))
   have quiet:x.act=none→(isPure x.o||isKept (aB ops x.o x.fr) x.o)=false→fW S wH 0 st h=x.h∨aY P g K ops x (fW S wH 0 st h)=true:=fun hn hp=>by
    have hneed:fC ops x=true:=by
     unfold fC;rw [hn];simp only [hp,cond_false];rw [hwant]
    rcases hq i x hx hneed with hqk|this
    · left
      rw [hh]
      refine d9 (fun j y hy ha=>?_)
      rw [Nat.zero_add]
      exact hside j (hqk j y hy ha).1 (hqk j y hy ha).2
    right
    refine g8 hancS hdesc (fun a y ha hya c z hc' hzc hac hs=>?_) this
    rw [Nat.zero_add]at hs ⊢
    exact I.closed _ hs _ (hchain a y ha hya c z hc' hzc hac)
   have still:x.act=none→(isPure x.o||isKept (aB ops x.o x.fr) x.o)=false→(fW S wH 0 st h=x.h→∃tm' w' ρ',ρ.le ρ'∧Inv P B0 W0 A st f h (cD S i) tm' ρ' w'∧Steps P (lone (fr b tm d (.inRegion ops (i::js)::k)) cs w) (lone (fr b tm' d (.inRegion ops js::k)) cs w')) →
     ∃tm' w' ρ',ρ.le ρ'∧Inv P B0 W0 A st f h (cD S i) tm' ρ' w'∧Steps P (lone (fr b tm d (.inRegion ops (i::js)::k)) cs w) (lone (fr b tm' d (.inRegion ops js::k)) cs w'):=by
    intro hn hp hcan
    rcases quiet hn hp with h1|h1
    · exact hcan h1
    unfold aY jT at h1
    split at h1
    · rename_i v2 h2 heq
      simp only [Bool.and_eq_true]at h1
      obtain⟨h3,h4⟩:=h1
      have:=EVal.beq_eq h4
      subst this
      have:=jJ h3 heq
      subst this
      exact value heq rfl (same hn)
    · rename_i fn args h2 heq
      split at h1
      · rename_i v hk
        have:=EVal.beq_eq h1
        obtain⟨hhh,vs,hrun,hvs⟩:=bG hng G H0 hERel heq
        exact callK (by first|exact hhh▸hk|(rw [←hhh];exact hk)) rfl this.symm hn hw (aD heq) hvs hrun
      · cases h1
    · cases h1
   unfold gG at he
   split at he
   · rename_i v h2 heq
     simp only [Bool.cond_eq_ite]at he
     split at he
     · rename_i hpq
       simp only [Oi,Prod.mk.injEq]at he
       obtain⟨rfl,ha⟩:=he
       cases hp:(isPure x.o||isKept (aB ops x.o x.fr) x.o)with
       | true=>
         have hf:HFree (fun h=>eOp P g h (aB ops x.o x.fr) x.o):=by
          rw [Bool.or_eq_true]at hp
          exact hp.elim nF qQ
         obtain⟨v',h1,h3⟩:=hf _ _ heq
         cases h1
         exact value (h3 _) rfl (same ha.symm)
       | false=>
         refine still ha.symm hp fun e=>?_
         rw [Bool.or_eq_false_iff]at hp;rw [hp.1,Bool.false_or]at hpq
         have:=jJ hpq heq
         subst this
         exact value heq e ((same ha.symm).trans e)
     · simp only [Oi,Prod.mk.injEq]at he
       obtain⟨rfl,ha⟩:=he
       obtain⟨e1,e2⟩:=turned _ ha.symm
       exact value heq e1 e2
   · rename_i fn args h2 heq
     split at he
     · rename_i v hk
       simp only [Oi,Prod.mk.injEq]at he
       obtain⟨hv,ha⟩:=he
       have hp:(isPure x.o||isKept (aB ops x.o x.fr) x.o)=false:=by
        cases hp:(isPure x.o||isKept (aB ops x.o x.fr) x.o)with
        | false=>rfl
        | true=>
          have hf:HFree (fun h=>eOp P g h (aB ops x.o x.fr) x.o):=by
           rw [Bool.or_eq_true]at hp
           exact hp.elim nF qQ
          obtain⟨v',h1,h3⟩:=hf _ _ heq
          cases h1
       refine still ha.symm hp fun e=>?_
       have H1:=H0
       rw [e]at H1
       obtain⟨hhh,vs,hrun,hvs⟩:=bG hng G H1 hERel heq
       exact callK (by rw [e];first|exact hhh▸hk|(rw [←hhh];exact hk)) rfl hv.symm ha.symm hw (aD heq) hvs hrun
     · unfold wZ at he
       split at he
       · rename_i v h3 hr
         simp only [Oi,Prod.mk.injEq]at he
         obtain⟨hv,ha⟩:=he
         obtain⟨e1,e2⟩:=turned _ ha.symm
         rw [e1]at H0
         obtain⟨rfl,vs,hrun,hvs⟩:=bG hng G H0 hERel heq
         obtain⟨q1,w1,fr1,⟨v',h',u,ρ',hm,rfl,hle,hvr,R'⟩,hcomes,hfn,hleave⟩:=S0.call _ _ _ _ hr vs ρ w hvs H0 (fr b tm d (.inRegion ops (i::js)::k)::cs)
         simp only [List.mem_singleton,Out.val.injEq]at hm
         obtain⟨rfl,rfl⟩:=hm
         refine fin hle (by rw [←hv];exact hvr) (by rw [e2];exact R') ?_
         refine .head (fN ho hw (aD heq) hrun) (Steps.trans hcomes (.one ?_))
         rw [←aT ho]
         exact step_leave_returned hleave
       · cases he
   · cases he
 · cases he
end
end Go.Ev
namespace Go.Ev
open Go.RowKit
section
variable {P:Program}{B0:Nat}{W0:eF}{g:G}{K:aH}{r:Rec}
def CodeRes (P:Program) (B0:Nat) (W0:eF) (outs:List Out) (m:Machine) (b:Frame) (k:List Item) (cs:List Frame) (ρ:Loc):Prop:=
 ∃e f' h',Out.code e f' h'∈outs∧∃t' d' w' ρ',ρ.le ρ'∧FRel ρ' f' b t' d'∧HRel P B0 W0 ρ' h' w'∧ArrE P m b k cs e t' d' w'
theorem CodeRes.here {f:EFr}{h:H}{e:oZ}{b:Frame}{t:Array Value}{d:List Deferred}{k:List Item}{cs:List Frame}{ρ:Loc}{w:World}{m:Machine}(F:FRel ρ f b t d) (R:HRel P B0 W0 ρ h w) (ha:ArrE P m b k cs e t d w) :
  CodeRes P B0 W0 [.code e f h] m b k cs ρ:=⟨e,f,h,by simp,t,d,w,ρ,Loc.le_refl _,F,R,ha⟩
theorem HRel.mode {ρ:Loc}{h:H}{w:World}(R:HRel P B0 W0 ρ h w) {m:Nat}(hm:h.m % 1099511627776≤m % 1099511627776):HRel P B0 W0 ρ (h.mode m) w:=
 ⟨R.below,R.base,R.dom,R.lo,R.inj,R.objs,R.fz,R.free,R.fz0,fun id q hid=>R.mdom id q (Nat.le_trans hm hid),R.toks,R.tnew,R.tinj⟩
theorem CodeRes.lower {outs:List Out}{m:Machine}{b:Frame}{k:List Item}{cs:List Frame}{ρ:Loc}(h:CodeRes P B0 W0 outs m b k cs ρ) (n:Nat):CodeRes P B0 W0 (outs.map (axb n)) m b k cs ρ:=by
 obtain⟨e,f',h',hm,t',d',w',ρ',h1,h2,h3,h4⟩:=h
 exact ⟨e,f',_,List.mem_map.2 ⟨_,hm,rfl⟩,t',d',w',ρ',h1,h2,h3.mode (by
  have h1:h'.m % 1099511627776≤Nat.max (h'.m % 1099511627776) (Nat.min n 1099511627775):=Nat.le_max_left _ _
  have h2:Nat.max (h'.m % 1099511627776) (Nat.min n 1099511627775)<1099511627776:=by
   show max (h'.m % 1099511627776) (min n 1099511627775)<1099511627776
   omega
  generalize Nat.max (h'.m % 1099511627776) (Nat.min n 1099511627775)=q at h1 h2 ⊢
  omega),h4⟩
theorem oT {D:H→Option (List Out)}{h:H}{outs:List Out}{ρ:Loc}{w:World}(R:HRel P B0 W0 ρ h w) (he:q9 D h=some outs) {m:Machine}{b:Frame}{k:List Item}{cs:List Frame}
  (hd:∀h' o,D h'=some o→HRel P B0 W0 ρ h' w→CodeRes P B0 W0 o m b k cs ρ):CodeRes P B0 W0 outs m b k cs ρ:=by
 unfold q9 at he
 split at he
 · exact hd _ _ he R
 · have hf:h.fz=false:=by assumption
   have hf':¬128≤h.m % 1024:=of_decide_eq_false hf
   split at he
   · rename_i l hl
     simp only [Oi]at he;subst he
     cases hc:(Nat.ble 32 (h.m % 1024)&&Nat.blt (h.m % 1024) 64)with
     | true=>rw [hc]at hl;exact hd _ _ hl R
     | false=>rw [hc]at hl;cases hl
   · split at he
     · rename_i l hl
       simp only [Oi]at he;subst he
       exact(hd _ _ hl (R.mode (by omega))).lower _
     · exact hd _ _ he R
theorem CodeRes.of_steps {outs:List Out}{m m':Machine}{b:Frame}{k:List Item}{cs:List Frame}{ρ:Loc}(hs:Steps P m m') (h:CodeRes P B0 W0 outs m' b k cs ρ):CodeRes P B0 W0 outs m b k cs ρ:=by
 obtain⟨e,f',h',hm,t',d',w',ρ',h1,h2,h3,h4⟩:=h
 exact⟨e,f',h',hm,t',d',w',ρ',h1,h2,h3,h4.of_steps hs⟩
theorem CodeRes.sub {outs outs':List Out}{m:Machine}{b:Frame}{k:List Item}{cs:List Frame}{ρ ρ0:Loc}(hl:ρ0.le ρ) (hs:∀y∈outs,y∈outs') (h:CodeRes P B0 W0 outs m b k cs ρ):CodeRes P B0 W0 outs' m b k cs ρ0:=by
 obtain⟨e,f',h',hm,t',d',w',ρ',h1,h2⟩:=h
 exact⟨e,f',h',hs _ hm,t',d',w',ρ',Loc.le_trans hl h1,h2⟩
theorem zQ (S:bZ P B0 W0 r) {x y:Code}{f:EFr}{h:H}{outs:List Out}
  (he:jH (r (.code x f h)) (seqK r y)=some outs) (b:Frame) (t:Array Value) (d:List Deferred) (k:List Item) (cs:List Frame) (ρ:Loc) (w:World) (F:FRel ρ f b t d) (R:HRel P B0 W0 ρ h w) :
  CodeRes P B0 W0 outs (lone (fr b t d (.code x::.code y::k)) cs w) b k cs ρ:=by
 obtain⟨l1,h1,h2⟩:=bM he
 obtain⟨e,f1,hh1,hm,t1,d1,w1,ρ1,hle,F1,R1,A1⟩:=S.code _ _ _ _ h1 b t d (.code y::k) cs ρ w F R
 obtain⟨o,h3,h4⟩:=h2 _ hm
 cases e with
 | normal=>
   simp only [seqK]at h3
   have:=S.code _ _ _ _ h3 b t1 d1 k cs ρ1 w1 F1 R1
   exact CodeRes.sub hle h4 (CodeRes.of_steps A1 this)
 | exit id=>
   simp only [seqK,Oi]at h3;subst h3
   obtain⟨k',e1,e2⟩:=A1
   exact CodeRes.sub hle h4 (CodeRes.here F1 R1 ⟨k',by rw [e1];rfl,e2⟩)
 | ret=>
   simp only [seqK,Oi]at h3;subst h3
   obtain⟨k',e2⟩:=A1
   exact CodeRes.sub hle h4 (CodeRes.here F1 R1 ⟨k',e2⟩)
theorem vT (S:bZ P B0 W0 r) {x:Code}{f:EFr}{h:H}{outs:List Out}
  (he:jH (r (.code x f h)) (xZ r x)=some outs) (b:Frame) (t:Array Value) (d:List Deferred) (k:List Item) (cs:List Frame) (ρ:Loc) (w:World) (F:FRel ρ f b t d) (R:HRel P B0 W0 ρ h w) :
  CodeRes P B0 W0 outs (lone (fr b t d (.code x::.inLoop x::k)) cs w) b k cs ρ:=by
 obtain⟨l1,h1,h2⟩:=bM he
 obtain⟨e,f1,hh1,hm,t1,d1,w1,ρ1,hle,F1,R1,A1⟩:=S.code _ _ _ _ h1 b t d (.inLoop x::k) cs ρ w F R
 obtain⟨o,h3,h4⟩:=h2 _ hm
 cases e with
 | normal=>
   simp only [xZ]at h3
   have:=S.again _ _ _ _ h3 b t1 d1 k cs ρ1 w1 F1 R1
   exact CodeRes.sub hle h4 (CodeRes.of_steps (Steps.trans A1 (.one sF)) this)
 | exit id=>
   simp only [xZ,Oi]at h3;subst h3
   obtain⟨k',e1,e2⟩:=A1
   exact CodeRes.sub hle h4 (CodeRes.here F1 R1 ⟨k',by rw [e1];rfl,e2⟩)
 | ret=>
   simp only [xZ,Oi]at h3;subst h3
   obtain⟨k',e2⟩:=A1
   exact CodeRes.sub hle h4 (CodeRes.here F1 R1 ⟨k',e2⟩)
theorem fQ {ρ:Loc}{h:H}{w:World}(R:HRel P B0 W0 ρ h w) {id l C:Nat}(hid:ρ id=some (l,C)) {st:LoopState}{pend:Option Code}{n:Nat}{t:T EVal}{ps:List Tmp}{a b:Code}{dd:Nat}(hg:h.get id=some (.loop st pend n t ps a b dd)) :
  ∃ L:Loop,w.heap[l]? = some (.loop L)∧L.state=st∧L.pending=pend∧L.tmps.size=n∧TRel ρ t L.tmps∧L.params.toList=ps∧L.assign=a∧L.body=b∧(getObj l).run P w=.ok (.loop L) w ∧
   ∀(st':LoopState) (pend':Option Code) (L':Loop),L'={ L with state:=st',pending:=pend' }→(setObj l (.loop L')).run P w=.ok () { w with heap:=w.heap.setIfInBounds l (.loop L') } ∧
    HRel P B0 W0 ρ (h.put id (.loop st' pend' n t ps a b dd)) { w with heap:=w.heap.setIfInBounds l (.loop L') }:=by
 obtain⟨b',C',hb',L,hw,h1,h2,h3,h4,h5,h6,h7⟩:=R.objs _ _ hg
 rw [hid]at hb';cases hb'
 refine⟨L,hw,h1,h2,h3,h4,h5,h6,h7,bD hw (by intro c e f hh;cases hh),fun st' pend' L' hL=>⟨dR hw (by intro c e f hh;cases hh),?_⟩⟩
 subst hL
 exact R.setObj hg hid hw ⟨_,rfl,rfl,rfl,h3,h4,h5,h6,h7⟩
theorem mC (hng : fL P) (S:bZ P B0 W0 r) {f:Operand}{ps:Array Tmp}{x y:Code}{fr0:EFr}{h:H}{outs:List Out}(he:qE P r ps x y fr0 h (ev fr0.tmps f)=some outs)
  (b:Frame) (t:Array Value) (d:List Deferred) (k:List Item) (cs:List Frame) (ρ:Loc) (w:World) (F:FRel ρ fr0 b t d) (R:HRel P B0 W0 ρ h w) :
  CodeRes P B0 W0 outs (lone (fr b t d (.code (.rangeFunc f ps x y)::k)) cs w) b k cs ρ:=by
 unfold qE at he
 split at he
 · rename_i kf caps hf
   split at he
   · rename_i hbody
     unfold nT at hbody
     split at hbody
     · rename_i fn hfn
       have hv:=F.erel _ _ hf
       generalize hfe:({ tmps:=t,defers:=d }:Act).eval f=fv at hv
       cases hv with
       | func _ _ vs hcs=>
       cases hel:kS fr0 h with
       | none=>rw [hel]at he;cases he
       | some p =>
         obtain⟨h1,f1⟩:=p
         rw [hel]at he
         simp only [sK]at he
         obtain⟨l1,hr1,hr2⟩:=bM he
         have enter:∃(l:Nat) (mark:List Deferred) (w2:World) (ρ2:Loc),(Instr.enterLoop b.fn t ps x y b.roundOf).run P w=.ok (l,mark) w2∧ρ.le ρ2∧ρ2 h1.n=some (l,0)∧FRel ρ2 f1 b t (mark++d) ∧
           HRel P B0 W0 ρ2 (h1.new (.loop .ready none fr0.sz fr0.tmps ps.toList x y 0)) w2:=by
          have hround:=F.round
          unfold kS at hel
          split at hel
          · rename_i hro
            simp only [Oi,Prod.mk.injEq]at hel
            obtain⟨rfl,rfl⟩:=hel
            have hb0:b.roundOf=none:=by
             rw [hro]at hround
             cases hq:b.roundOf with
             | none=>rfl
             | some l=>rw [hq]at hround;exact hround.elim
            have Rd:=R.new (.deferred false) (.deferred (some [])) 0 rfl
            have hn1:(h.new (.deferred false)).n=h.n+1:=rfl
            let L:Loop:={ state:=.ready,pending:=none,fn:=b.fn,tmps:=t,params:=ps,assign:=x,body:=y,defers:=w.heap.size }
            have hle1:=Loc.le_add (x:=(w.heap.size,0)) R.fresh
            have hle2:=Loc.le_add (x:=((w.alloc (.deferred (some []))).heap.size,0)) Rd.fresh
            have Rl:=Rd.new (.loop .ready none fr0.sz fr0.tmps ps.toList x y 0) (.loop L) 0 ⟨L,rfl,rfl,rfl,F.size,(F.tmps.mono hle1).mono hle2,rfl,rfl,rfl⟩
            refine⟨_,[{ target:=.collected w.heap.size,args:=#[] }],_,_,?_,Loc.le_trans hle1 hle2,Loc.add_self _ _ _,⟨F.size,(F.tmps.mono hle1).mono hle2,?_,?_⟩,Rl⟩
            · rw [hb0];simp [Instr.enterLoop,L]
            · exact .cons _ _ 0 _ _ (hle2.own _ _ (Loc.add_self _ _ _)) ((F.defers.mono hle1).mono hle2)
            · rw [hb0];trivial
          · rename_i id hro
            split at hel
            · rename_i st pend n tt pp aa bb dd hg
              simp only [Oi,Prod.mk.injEq]at hel
              obtain⟨rfl,rfl⟩:=hel
              cases hq:b.roundOf with
              | none=>rw [hro,hq]at hround;exact hround.elim
              | some l=>
                have hround':=hround
                rw [hro,hq]at hround'
                obtain⟨C,hC⟩:=hround'
                obtain⟨L0,hw0,_,_,_,_,_,_,_,hgo,_⟩:=fQ R hC hg
                let L:Loop:={ state:=.ready,pending:=none,fn:=b.fn,tmps:=t,params:=ps,assign:=x,body:=y,defers:=L0.defers }
                have hle:=Loc.le_add (x:=(w.heap.size,0)) R.fresh
                have Rl:=R.new (.loop .ready none fr0.sz fr0.tmps ps.toList x y 0) (.loop L) 0 ⟨L,rfl,rfl,rfl,F.size,F.tmps.mono hle,rfl,rfl,rfl⟩
                refine⟨_,[],_,_,?_,hle,Loc.add_self _ _ _,?_,Rl⟩
                · simp [Instr.enterLoop,Instr.getLoop,hgo,L]
                · exact F.mono hle
            · cases hel
         obtain⟨l,mark,w2,ρ2,hrun,hle,hl,F2,R2⟩:=enter
         have hargs:VsRel ρ2 (.yieldf h1.n::caps) (#[Value.func (.yield l) #[] #[]]++vs).toList:=by
          rw [Array.toList_append]
          exact .cons _ _ _ _ (.yieldf _ _ _ hl) (hcs.mono hle)
         have hc:=S.call _ _ _ _ hr1 _ ρ2 w2 hargs R2
         obtain⟨e1,w3,fr1,⟨v,h3,u,ρ3,hm,rfl,hle3,hv3,R3⟩,hcomes,hfn1,hleave⟩:=hc (fr b t (mark++d) (.inRangeFunc l::k)::cs)
         obtain⟨o,ho1,ho2⟩:=hr2 _ hm
         have s1:Steps P (lone (fr b t d (.code (.rangeFunc f ps x y)::k)) cs w) (lone (fr b t (mark++d) (.endRangeFunc l::k)) cs w3):=by
          refine .head (lK hng hrun hfe hfn hbody) (Steps.trans hcomes (.one ?_))
          exact step_leave_returned hleave
         simp only [ax7]at ho1
         split at ho1
         · rename_i st pend n tt pp aa bb dd hg
           split at ho1
           · cases ho1
           · rename_i hst
             have hl3:=hle3.own _ _ hl
             obtain⟨L,hw3,hL1,hL2,hL3,hL4,hL5,hL6,hL7,hgo,hput⟩:=fQ R3 hl3 hg
             obtain⟨hso,R4⟩:=hput .exhausted pend { L with state:=.exhausted } (by cases hL2;rfl)
             have hend:(Instr.endLoop l).run P w3=.ok pend { w3 with heap:=w3.heap.setIfInBounds l (.loop { L with state:=.exhausted }) }:=by
              have hst':L.state≠LoopState.busy:=by rw [hL1];exact hst
              rw [←hL2]
              simp [Instr.endLoop,Instr.getLoop,hgo,hst',hso]
             have s2:=Steps.trans s1 (.one (gL (P:=P) (b:=b) (t:=t) (d:=mark++d) (k:=k) (cs:=cs) hend))
             have F4:=F2.mono hle3
             refine CodeRes.sub (Loc.le_trans hle hle3) ho2 ?_
             cases pend with
             | none=>
               simp only [jumpK,Oi]at ho1;subst ho1
               exact CodeRes.here F4 R4 s2
             | some c=>
               cases c<;>simp only [jumpK,Oi]at ho1<;>first|cases ho1|skip
               all_goals first
                | exact CodeRes.here F4 R4 ⟨k,s2⟩
                | exact CodeRes.here F4 R4 ⟨k,rfl,s2⟩
         · cases ho1
     · cases hbody
   · cases he
 · cases he
theorem yU (hng:fL P) (S:bZ P B0 W0 r) (hdraw:∀(id:Nat) (ops:Array Oper) (f:EFr) (h:H) (outs:List Out),runDraw P g K r ops f h=some outs→∀b t d k cs ρ w,FRel ρ f b t d→HRel P B0 W0 ρ h w→CodeRes P B0 W0 outs (lone (fr b t d (.code (.region id ops true)::k)) cs w) b k cs ρ)
  (c:Code) (f:EFr) (h:H) (outs:List Out) (he:qF P g K r c f h=some outs) (b:Frame) (t:Array Value) (d:List Deferred) (k:List Item) (cs:List Frame) (ρ:Loc) (w:World) (F:FRel ρ f b t d) (R:HRel P B0 W0 ρ h w) :
  CodeRes P B0 W0 outs (lone (fr b t d (.code c::k)) cs w) b k cs ρ:=by
 unfold qF at he
 split at he
 · simp only [Oi]at he;subst he
   exact CodeRes.here F R (.one zJ)
 · simp only [Oi]at he;subst he
   exact CodeRes.here F R (.one wC)
 · rename_i id ops dr
   split at he
   · obtain ⟨f',h',hm,t',w',ρ',h1,h2,h3,h4⟩:=S.ops _ _ _ _ _ he (List.range ops.size) (by
      apply List.ext_getElem?
      intro i
      simp only [List.getElem?_map]
      by_cases hi:i<ops.size
      · rw [List.getElem?_range hi];simp [hi]
      · rw [List.getElem?_eq_none (by simpa using Nat.le_of_not_lt hi),List.getElem?_eq_none (by simpa using Nat.le_of_not_lt hi)];rfl) b t d k cs ρ w F R
     exact⟨.normal,f',h',hm,t',d,w',ρ',h1,h2,h3,.head m6 h4⟩
   · exact oT R he fun h' o ho R'=>hdraw id ops f h' o ho b t d k cs ρ w F R'
 · rename_i x y
   exact CodeRes.of_steps (.one wB) (zQ S he b t d k cs ρ w F R)
 · rename_i c x y
   unfold condK at he
   split at he
   · rename_i hc
     have hv:=F.erel _ _ hc
     generalize hce:({ tmps:=t,defers:=d }:Act).eval c=cv at hv
     cases hv
     exact CodeRes.of_steps (.one (qC hce)) (S.code _ _ _ _ he b t d k cs ρ w F R)
   · rename_i hc
     have hv:=F.erel _ _ hc
     generalize hce:({ tmps:=t,defers:=d }:Act).eval c=cv at hv
     cases hv
     exact CodeRes.of_steps (.one (qC hce)) (S.code _ _ _ _ he b t d k cs ρ w F R)
   · cases he
 · rename_i id x
   obtain⟨l1,h1,h2⟩:=bM he
   obtain⟨e,f1,hh1,hm,t1,d1,w1,ρ1,hle,F1,R1,A1⟩:=S.code _ _ _ _ h1 b t d (.inBlock id::k) cs ρ w F R
   obtain⟨o,h3,h4⟩:=h2 _ hm
   refine CodeRes.of_steps (.one jN) (CodeRes.sub hle h4 ?_)
   cases e with
   | normal=>
     simp only [xI,Oi]at h3;subst h3
     exact CodeRes.here F1 R1 (Steps.trans A1 (.one pA))
   | exit i=>
     obtain⟨k',e1,e2⟩:=A1
     simp only [xI]at h3
     split at h3
     · rename_i hi
       subst hi
       simp only [Oi]at h3;subst h3
       refine CodeRes.here F1 R1 (Steps.trans e2 (.one (zM ?_)))
       rw [e1];simp [exitTo]
     · rename_i hi
       simp only [Oi]at h3;subst h3
       refine CodeRes.here F1 R1 ⟨k',?_,e2⟩
       rw [e1]
       have:(id==i)=false:=by simpa using Ne.symm hi
       simp [exitTo,this]
   | ret=>
     simp only [xI,Oi]at h3;subst h3
     obtain⟨k',e2⟩:=A1
     exact CodeRes.here F1 R1 ⟨k',e2⟩
 · rename_i x
   exact CodeRes.of_steps (.one zL) (S.again _ _ _ _ he b t d k cs ρ w F R)
 · rename_i x
   obtain⟨e,f1,hh1,hm,t1,d1,w1,ρ1,hle,F1,R1,A1⟩:=S.code _ _ _ _ he b t d (.inScope x::k) cs ρ w F R
   refine CodeRes.of_steps (.one mL) ⟨e,f1,hh1,hm,t1,d1,w1,ρ1,hle,F1,R1,?_⟩
   cases e with
   | normal=>exact Steps.trans A1 (.one o9)
   | exit id=>obtain⟨k',e1,e2⟩:=A1;exact⟨k',by rw [e1];rfl,e2⟩
   | ret=>exact A1
 · rename_i id
   simp only [Oi]at he;subst he
   exact CodeRes.here F R ⟨k,rfl,.refl _ _⟩
 · simp only [Oi]at he;subst he
   exact CodeRes.here F R ⟨k,.refl _ _⟩
 · exact mC hng S he b t d k cs ρ w F R
 · cases he
theorem xU {b:Frame}{todo:List Item}{t:Array Value}{bl:Nat}{ds:List Deferred}{cs:List Frame}{w w':World}(he:(Instr.takeDeferred bl).run P w=.ok [] w') :
  step P (lone { fr b t ({ target:=.collected bl,args:=#[] }::ds) todo with mode:=.returning } cs w)=.next (lone { fr b t ds todo with mode:=.returning } cs w'):=
 step_lone_go (by simp [stepG,unwind,fr,he])
theorem dK {ρ:Loc}{b:Frame}{todo:List Item}{t:Array Value}{cs:List Frame}:∀ {l:List Nat}{ds:List Deferred}{h h':H}{w:World},DRel ρ l ds→HRel P B0 W0 ρ h w→cT h l=some h' →
  ∃w',HRel P B0 W0 ρ h' w'∧Steps P (lone { fr b t ds todo with mode:=.returning } cs w) (lone { fr b t [] todo with mode:=.returning } cs w')
 | [],_,h,h',w,hd,R,he=>by
   cases hd
   simp only [cT,Oi]at he;subst he
   exact⟨w,R,.refl _ _⟩
 | id :: l,_,h,h',w,hd,R,he=>by
   cases hd with
   | cons _ bl C _ ds hb hs=>
   simp only [cT]at he
   split at he
   · rename_i hg
     obtain⟨b',C',hb',hw⟩:=R.objs _ _ hg
     rw [hb]at hb';cases hb'
     have hw':w.heap[bl]? = some (.deferred (some [])):=hw
     have hgo:=bD (P:=P) hw' (by intro c e f hh;cases hh)
     have hso:=dR (P:=P) (o':=.deferred none) hw' (by intro c e f hh;cases hh)
     have R':=R.setObj (o':=.deferred true) (obj':=.deferred none) hg hb hw' rfl
     obtain⟨w2,R2,s2⟩:=dK (b:=b) (todo:=todo) (t:=t) (cs:=cs) hs R' he
     exact⟨w2,R2,.head (xU (by simp [Instr.takeDeferred,hgo,hso])) s2⟩
   · cases he
theorem cH (G:GRel B0 W0.w g) {ρ:Loc}{h:H}{w:World}(R:HRel P B0 W0 ρ h w) {t:T EVal}{tm:Array Value}(ht:TRel ρ t tm):∀(l:List ResultVar) (es:List EVal),resultsE P g h t l=some es →
  ∃vs:List Value,(l.mapM (fun | .tmp t=>pure (tm.getD t undef) | .cell a t=>do loadVar t (←asAddr (tm.getD a undef)):ResultVar→Sem Value)).run P w=.ok vs w∧VsRel ρ es vs
 | [],es,he=>by
   simp only [resultsE,Oi]at he;subst he
   exact⟨[],by simp,.nil⟩
 | .tmp i::l,es,he=>by
   simp only [resultsE]at he
   split at he
   · rename_i v vs hv hvs
     simp only [Oi]at he;subst he
     obtain⟨us,h1,h2⟩:=cH G R ht l _ hvs
     exact⟨tm.getD i undef::us,by simp only [List.mapM_cons,Sem.run_bind,Sem.run_pure,Result.andThen_ok,h1],.cons _ _ _ _ (ht _ _ hv) h2⟩
   · cases he
 | .cell i ty::l,es,he=>by
   simp only [resultsE]at he
   split at he
   · rename_i a vs ha hvs
     split at he
     · rename_i v hv
       simp only [Oi]at he;subst he
       obtain⟨us,h1,h2⟩:=cH G R ht l _ hvs
       have hra:=ht _ _ ha
       generalize hq:tm.getD i undef=av at hra
       obtain⟨u,hu1,hu2⟩:=pJ R G hra hv
       unfold eLoad at hv
       split at hv
       · rename_i cs o hrow
         obtain⟨bb,base,rfl,_⟩:=wE R G hra hrow
         have hu1':(loadVar ty ⟨bb,base+o,none⟩).run P w=.ok u w:=by simpa [Instr.loadAt,Instr.sureAddr]using hu1
         have ha:(asAddr (tm.getD i undef)).run P w=.ok ⟨bb,base+o,none⟩ w:=by rw [hq];rfl
         exact⟨u::us,by simp only [List.mapM_cons,Sem.run_bind,ha,Sem.run_pure,Result.andThen_ok,hu1',h1],.cons _ _ _ _ hu2 h2⟩
       · cases hv
     · cases he
   · cases he
theorem uM {ρ:Loc}{es:List EVal}{vs:List Value}(h:VsRel ρ es vs):VRel ρ (one es) (if h:vs.toArray.size=1 then vs.toArray[0]else .tuple vs.toArray):=by
 unfold one
 split
 · rename_i v
   cases h with|cons _ u _ _ hv hs=>cases hs;simpa using hv
 · rename_i hne
   have hl:=h.length
   have:vs.toArray.size≠1:=by
    intro h1
    have:es.length=1:=by simpa [hl]using h1
    match es,this with
    | [x],_=>exact hne x rfl
   rw [dif_neg this]
   exact .tup _ _ (by simpa using h)
theorem fU {ρ:Loc}:∀(es:List EVal) (k:Nat) (t:T EVal) (tm:Array Value),(∀j e,es[j]? = some e→VRel ρ e (tm.getD (k+j) undef)) →
  (∀i e,t.get i=some e→i<k∨k+es.length≤i→VRel ρ e (tm.getD i undef))→TRel ρ (qT es k t) tm
 | [],k,t,tm,_,h2=>fun i e hi=>h2 i e hi (by simp;omega)
 | e0 :: es,k,t,tm,h1,h2=>by
   refine fU es (k+1) (t.set k (some e0)) tm (fun j e hj=>?_) (fun i e hi hor=>?_)
   · have:=h1 (j+1) e (by simpa using hj)
     rwa [show k+(j+1)=k+1+j from by omega]at this
   · rcases T.get_set _ _ _ _ hi with⟨rfl,he⟩ | ⟨hne,hg⟩
     · cases he
       exact h1 0 e0 (by simp)
     · exact h2 i e hg (by simp at hor ⊢;omega)
theorem vN (G:GRel B0 W0.w g) (S:bZ P B0 W0 r) (f:FuncId) (args:List EVal) (h:H) (outs:List Out) (he:qG P g r f args h=some outs) (vs:Array Value) (ρ:Loc) (w:World) (hvs:VsRel ρ args vs.toList) (R:HRel P B0 W0 ρ h w) :
  Calls P f vs w fun e w'=>∃v h' u ρ',Out.val v h'∈outs∧e=.returned u∧ρ.le ρ'∧VRel ρ' v u∧HRel P B0 W0 ρ' h' w':=by
 unfold qG at he
 split at he
 · rename_i fn hfn
   split at he
   · rename_i c hc
     intro cs
     obtain⟨l1,h1,h2⟩:=bM he
     let b:Frame:={ (default:Frame)with fn:=f,kind:=.normal,roundOf:=none }
     have henter:Frame.enter P f vs .normal=fr b (vs++Array.replicate (fn.ntmps-vs.size) undef) [] [.code c]:=by
      simp [Frame.enter,fr,hfn,hc,b]
     have F : FRel ρ ⟨Nat.max fn.ntmps args.length,qT args 0 (T.full (some undefE) 10),[],none⟩ b (vs++Array.replicate (fn.ntmps-vs.size) undef) []:=by
      have hl:args.length=vs.size:=by rw [hvs.length];simp
      refine⟨?_,?_,.nil,trivial⟩
      · simp only [Array.size_append,Array.size_replicate,hl]
        show _=Nat.max fn.ntmps vs.size
        simp only [Nat.max_def];split<;>omega
      · refine fU args 0 _ _ (fun j e hj=>?_) (fun i e hi hor=>?_)
        · obtain ⟨u,hu,hr⟩:=hvs.get hj
          have hlt:j<vs.size:=by have:=(List.getElem?_eq_some_iff.1 hu).1;simpa using this
          have:(vs++Array.replicate (fn.ntmps-vs.size) undef).getD (0+j) undef=u:=by
           rw [Array.getD_eq_getD_getElem?,Nat.zero_add,Array.getElem?_append_left hlt]
           have:vs[j]? = some u:=by simpa using hu
           rw [this];rfl
          rw [this];exact hr
        · have:=T.get_full _ _ _ hi
          cases this
          have:(vs++Array.replicate (fn.ntmps-vs.size) undef).getD i undef=undef:=by
           rw [Array.getD_eq_getD_getElem?,Array.getElem?_append_right (by omega),Array.getElem?_replicate]
           split<;>rfl
          rw [this];exact bA _
     obtain⟨e,f1,hh1,hm,t1,d1,w1,ρ1,hle,F1,R1,A1⟩:=S.code _ _ _ _ h1 b _ [] [] cs ρ w F R
     rw [←henter]at A1
     obtain⟨o,h3,h4⟩:=h2 _ hm
     have fin:∀(todo:List Item),Steps P (lone (Frame.enter P f vs .normal) cs w) (lone { fr b t1 d1 todo with mode:=.returning } cs w1)→iE P g fn f1 hh1=some o →
       ∃(e:Ending) (w':World) (fr':Frame),(∃v h' u ρ',Out.val v h'∈outs∧e=.returned u∧ρ.le ρ'∧VRel ρ' v u∧HRel P B0 W0 ρ' h' w')∧Comes P (lone (Frame.enter P f vs .normal) cs w) (lone fr' cs w') e∧fr'.fn=f∧fr'.leaving P w' e:=by
      intro todo hs hf
      unfold iE at hf
      split at hf
      · rename_i h' hta
        split at hf
        · rename_i es hes
          simp only [Oi]at hf;subst hf
          obtain⟨w2,R2,s2⟩:=dK (b:=b) (todo:=todo) (t:=t1) (cs:=cs) F1.defers R1 hta
          obtain⟨us,hu1,hu2⟩:=cH G R2 F1.tmps _ _ hes
          refine⟨.returned (if h:us.toArray.size=1 then us.toArray[0]else .tuple us.toArray),w2,_,⟨_,_,_,ρ1,h4 _ (by simp),rfl,hle,uM hu2,R2⟩,Steps.trans hs s2,rfl,rfl,rfl,rfl,fn,hfn,?_⟩
          show(results fn t1).run P w2=_
          unfold results
          rw [Array.mapM_eq_mapM_toList]
          simp only [Sem.run_bind,Sem.run_map,Sem.run_pure]
          have:=congrArg (fun q=>(q.andThen fun a w'=>(Result.ok (a.toArray:Array Value) w':Result (Array Value))).andThen fun vs w'=>(Result.ok (if h:vs.size=1 then vs[0]else Value.tuple vs) w':Result Value)) hu1
          exact this
        · cases hf
      · cases hf
     unfold callK at h3
     split at h3
     · rename_i heq
       cases heq
       obtain⟨k',s1⟩:=A1
       exact fin _ (Steps.trans s1 (.one (zK rfl))) h3
     · rename_i heq
       cases heq
       exact fin _ (Steps.trans A1 (.one (zN rfl))) h3
     · cases h3
   · cases he
 · cases he
end
end Go.Ev
namespace Go.Ev
open Go.RowKit
def aqv:List Bool→Nat
 | []=>0
 | b::l=>(if b=false then 1 else 0)+aqv l
theorem rL:∀ {l:List Bool}{i:Nat},l[i]? = some false→aqv (l.set i true)+1=aqv l
 | [],i,h=>by simp at h
 | b::l,0,h=>by simp at h;subst h;simp [aqv];omega
 | b::l,i+1,h=>by
   simp only [List.set_cons_succ,aqv]
   have:=rL (l:=l) (i:=i) (by simpa using h)
   omega
theorem oI:∀ {l:List Bool},aqv l=0→∀(i:Nat) (b:Bool),l[i]? = some b→b=true
 | [],_,i,b,h=>by simp at h
 | x :: l,hz,i,b,h=>by
   simp only [aqv]at hz
   cases i with
   | zero=>
     simp at h;subst h
     cases x with
     | true=>rfl
     | false=>simp at hz
   | succ i=>exact oI (l:=l) (by omega) i b (by simpa using h)
theorem xG (n:Nat):aqv (List.replicate n false)=n:=by
 induction n with
 | zero=>rfl
 | succ n ih=>simp [List.replicate_succ,aqv,ih];omega
section
variable {P:Program}{B0:Nat}{W0:eF}{g:G}{K:aH}{r:Rec}
theorem nM {o:Oper}{j:Nat}:j∈cY o↔∃e∈o.after.toList,Region.binds .any e=true∧e.on=j:=by
 unfold cY
 simp only [List.mem_filterMap]
 constructor
 · rintro ⟨e,he,h⟩
   split at h
   · rename_i hb;simp only [Oi]at h;exact⟨e,he,hb,h⟩
   · cases h
 · rintro ⟨e,he,hb,h⟩
   exact⟨e,he,by rw [if_pos hb,h]⟩
theorem hU {ops:Array Oper}{listed:Array Bool}(hl:listed.size=ops.size) {i:Nat} :
  i∈(Region.ready .any ops listed)↔∃o,ops[i]? = some o∧listed.getD i false=false∧∀j∈cY o,listed.getD j false=true:=by
 unfold Region.ready
 simp only [List.mem_filter,List.mem_range,Bool.and_eq_true,Bool.not_eq_true']
 constructor
 · rintro ⟨hi,h1,h2⟩
   have ho:ops[i]? = some ops[i]:=Array.getElem?_eq_getElem hi
   refine⟨ops[i],ho,?_,fun j hj=>?_⟩
   · rw [Array.getD_eq_getD_getElem?,Array.getElem?_eq_getElem (by omega)]at h1 ⊢
     exact h1
   · rw [ho]at h2
     simp only [Option.map_some,Option.getD_some,Array.all_eq_true_iff_forall_mem,Bool.or_eq_true,Bool.not_eq_true']at h2
     obtain⟨e,he,hb,rfl⟩:=nM.1 hj
     rcases h2 e (Array.mem_def.2 he)with h|h
     · rw [hb]at h;cases h
     · exact h
 · rintro ⟨o,ho,h1,h2⟩
   have hi:i<ops.size:=(Array.getElem?_eq_some_iff.1 ho).1
   refine⟨hi,?_,?_⟩
   · rw [Array.getD_eq_getD_getElem?,Array.getElem?_eq_getElem (by omega)]at h1 ⊢
     exact h1
   · rw [ho]
     simp only [Option.map_some,Option.getD_some,Array.all_eq_true_iff_forall_mem,Bool.or_eq_true,Bool.not_eq_true']
     intro e he
     cases hb:Region.binds .any e with
     | false=>exact .inl rfl
     | true=>exact .inr (h2 _ (nM.2 ⟨e,Array.mem_def.1 he,hb,rfl⟩))
theorem draw_go (hng:fL P) (G:GRel B0 W0.w g) (S0:bZ P B0 W0 r) (hK:KOK P B0 W0 K) {ops:Array Oper}{A:List Nat}{st:List aC}{f f':EFr}{h h':H}
  (T:Trace P g K r ops st f h f' h') (hst:st.map (·.o)=ops.toList) (hs:bN ops A=true) (hc:t4 P g K ops A st h (actsOf st 0)=true)
  {b:Frame} {d:List Deferred} {k:List Item} {cs:List Frame}:∀(fuel t:Nat) (listed:Array Bool) (tm:Array Value) (ρ:Loc) (w:World),listed.size=ops.size→aqv listed.toList=fuel→Inv P B0 W0 A st f h (fun i=>listed.getD i false) tm ρ w →
  ∃S tm' w' ρ',ρ.le ρ'∧(∀i,i<ops.size→S i=true)∧Inv P B0 W0 A st f h S tm' ρ' w'∧Steps P (lone (fr b tm d (.inRegion ops (Region.linearise.go .any ops fuel t listed [])::k)) cs w) (lone (fr b tm' d (.inRegion ops []::k)) cs w'):=by
 intro fuel
 induction fuel with
 | zero=>
   intro t listed tm ρ w hl hcnt I
   refine⟨_,tm,w,ρ,Loc.le_refl _,fun i hi=>?_,I,?_⟩
   · have:listed[i]? = some listed[i]:=Array.getElem?_eq_getElem (by omega)
     have h2:=oI hcnt i listed[i] (by rw [Array.getElem?_toList];exact this)
     simp only [Array.getD_eq_getD_getElem?,this,h2,Option.getD_some]
   · simp only [Region.linearise.go,List.reverse_nil];exact .refl _ _
 | succ fuel ih=>
   intro t listed tm ρ w hl hcnt I
   simp only [Region.linearise.go]
   change ∃S tm' w' ρ',ρ.le ρ'∧(∀i,i<ops.size→S i=true)∧Inv P B0 W0 A st f h S tm' ρ' w'∧Steps P (lone (fr b tm d (.inRegion ops (match(Region.ready .any ops listed)[t % (Region.ready .any ops listed).length]? with
    | some i=>Region.linearise.go .any ops fuel (t / (Region.ready .any ops listed).length) (listed.setIfInBounds i true) [i]
    | none=>[].reverse)::k)) cs w) (lone (fr b tm' d (.inRegion ops []::k)) cs w')
   cases hi:(Region.ready .any ops listed)[t % (Region.ready .any ops listed).length]? with
   | none =>
     have hnil:Region.ready .any ops listed=[]:=by
      cases hr:Region.ready .any ops listed with
      | nil=>rfl
      | cons x xs=>
        rw [hr]at hi
        have hlt:t % (x::xs).length<(x::xs).length:=Nat.mod_lt _ (by simp)
        simp at hi
        simp at hlt
        omega
     have hall:∀i,i<ops.size→listed.getD i false=true:=by
      intro i
      induction i using Nat.strongRecOn with
      | ind i ihi=>
        intro hlt
        cases hq2:listed.getD i false with
        | true=>rfl
        | false=>
          exfalso
          have ho:ops[i]? = some ops[i]:=Array.getElem?_eq_getElem hlt
          have hmem:i∈Region.ready .any ops listed:=(hU hl).2 ⟨_,ho,hq2,fun j hj=>by
           have:=(fJ (dL hs).1 i _ (by rw [Array.getElem?_toList];exact ho)).2 j hj
           exact ihi j (by omega) (by omega)⟩
          rw [hnil]at hmem;cases hmem
     exact⟨_,tm,w,ρ,Loc.le_refl _,hall,I,by simp only [List.reverse_nil];exact .refl _ _⟩
   | some i=>
     simp only []
     rw [linearise_go_acc,List.reverse_singleton,List.singleton_append]
     obtain⟨o,ho,h1,h2⟩:=(hU hl).1 (List.mem_of_getElem? hi)
     have hlt:i<ops.size:=(Array.getElem?_eq_some_iff.1 ho).1
     have hxo:(st.map (·.o))[i]? = some o:=by rw [hst,Array.getElem?_toList];exact ho
     rw [List.getElem?_map]at hxo
     cases hx:st[i]? with
     | none=>rw [hx]at hxo;cases hxo
     | some x=>
       rw [hx]at hxo
       simp only [Option.map_some,Oi]at hxo
       subst hxo
       obtain⟨tm1,w1,ρ1,hle,I1,s1⟩:=aq9 hng G S0 hK T hst hs hc hx h1 h2 I (b:=b) (d:=d) (k:=k) (cs:=cs) (Region.linearise.go .any ops fuel (t / (Region.ready .any ops listed).length) (listed.setIfInBounds i true) [])
       have hS:cD (fun i=>listed.getD i false) i=fun j=>(listed.setIfInBounds i true).getD j false:=by
        funext j
        unfold cD
        simp only [Array.getD_eq_getD_getElem?]
        by_cases hj:j=i
        · subst hj;rw [if_pos rfl,Array.getElem?_setIfInBounds_self_of_lt (by omega)];rfl
        · rw [if_neg hj,Array.getElem?_setIfInBounds_ne (Ne.symm hj)]
       rw [hS]at I1
       obtain ⟨S,tm2,w2,ρ2,hle2,hall,I2,s2⟩:=ih (t / (Region.ready .any ops listed).length) (listed.setIfInBounds i true) tm1 ρ1 w1 (by simpa using hl) (by
        rw [Array.toList_setIfInBounds]
        have:listed[i]? = some false:=by
         rw [Array.getD_eq_getD_getElem?,Array.getElem?_eq_getElem (by omega)]at h1
         rw [Array.getElem?_eq_getElem (by omega)]
         simpa using h1
        have:=rL (l:=listed.toList) (i:=i) (by rw [Array.getElem?_toList];exact this)
        omega) I1
       exact⟨S,tm2,w2,ρ2,Loc.le_trans hle hle2,hall,I2,Steps.trans s1 s2⟩
theorem pR (hm:P.follows .mixedOrders=true) (hng:fL P) (G:GRel B0 W0.w g) (S0:bZ P B0 W0 r) (hK:KOK P B0 W0 K) (id:Nat) (ops:Array Oper) (f:EFr) (h:H) (outs:List Out) (he:runDraw P g K r ops f h=some outs)
  (b:Frame) (t:Array Value) (d:List Deferred) (k:List Item) (cs:List Frame) (ρ:Loc) (w:World) (F:FRel ρ f b t d) (R:HRel P B0 W0 ρ h w):CodeRes P B0 W0 outs (lone (fr b t d (.code (.region id ops true)::k)) cs w) b k cs ρ:=by
 unfold runDraw at he
 cases hd:eO P g K r ops ops.toList f h with
 | none=>rw [hd]at he;cases he
 | some q=>
   obtain⟨st,f',h'⟩:=q
   rw [hd]at he
   simp only [vB,Bool.cond_eq_ite]at he
   split at he
   rotate_left
   · cases he
   rename_i hs
   split at he
   rotate_left
   · cases he
   rename_i hc
   simp only [Oi]at he
   subst he
   obtain⟨T,hst⟩:=dD hd
   have hlen:st.length=ops.size:=by have:=congrArg List.length hst;simpa using this
   have hfalse:∀i,(Array.replicate ops.size false).getD i false=false:=fun i=>by
    rw [Array.getD_eq_getD_getElem?,Array.getElem?_replicate];split<;>rfl
   have I:Inv P B0 W0 (dQ ops.toList []) st f h (fun i=>(Array.replicate ops.size false).getD i false) t ρ { w with drawn:=w.drawn+1 }:=by
    refine⟨F.size,fun s e hs=>?_,?_,fun i hi=>by rw [hfalse]at hi;cases hi⟩
    · rw [eA (fun j y _ _=>hfalse _)]at hs
      exact F.tmps s e hs
    · rw [eA (fun j y _ _=>hfalse _)]
      exact R.drew
   obtain⟨S,tm,w',ρ',hle,hall,I',s⟩:=draw_go hng G S0 hK T hst hs hc (b:=b) (d:=d) (k:=k) (cs:=cs) ops.size (w.tape w.drawn (.order b.fn id)) (Array.replicate ops.size false) t ρ { w with drawn:=w.drawn+1 } (by simp) (by rw [Array.toList_replicate,xG]) I
   have hfold:∀ {α:Type} (q:aC→Option α) (a:α),fW S q 0 st a=oP q st a:=fun q a=>by
    have:=d9 (S:=S) (f:=q) (l:=st) (k:=0) (i:=st.length) (b:=a) (fun j y hy _=>by
     have:j<st.length:=(List.getElem?_eq_some_iff.1 hy).1
     rw [Nat.zero_add]
     simp [hall j (by omega),this])
    rwa [List.take_length]at this
   obtain⟨hf1,hf2⟩:=T.fin
   obtain⟨hz,hdf,hrd⟩:=T.rest
   refine CodeRes.sub hle (fun y hy=>hy) (CodeRes.here (t:=tm) (d:=d) (w:=w') (ρ:=ρ') ⟨by rw [I'.size,hz],fun s e hg=>?_,by rw [hdf];exact F.defers.mono hle,by rw [hrd];exact(F.mono hle).round⟩ ?_ ?_)
   · refine I'.slots s e ?_
     rw [hfold]
     exact hf2 s _ (fun e h=>h) e hg
   · have:=I'.heap
     rw [hfold,←hf1]at this
     exact this
   · refine .head iP ?_
     rw [Region.schedule,hm]
     simp only [Bool.true_or,if_true]
     exact Steps.trans s (.one cG)
end
end Go.Ev
namespace Go.Ev
open Go.RowKit
section
variable {P:Program}{B0:Nat}{W0:eF}{g:G}{r:Rec}
theorem dY {ρ:Loc}{n:Nat}:∀(ps:List Tmp) (es:List EVal) (vs:List Value) (t t':T EVal) (tm:Array Value),bK n t ps es=some t'→TRel ρ t tm→tm.size=n→VsRel ρ es vs →
  ps.length=vs.length∧TRel ρ t' ((ps.zip vs).foldl (fun(a:Array Value) (x:Tmp×Value)=>a.setIfInBounds x.1 x.2) tm)∧((ps.zip vs).foldl (fun(a:Array Value) (x:Tmp×Value)=>a.setIfInBounds x.1 x.2) tm).size=n
 | [],[],_,t,t',tm,he,ht,hn,hr=>by
   cases hr
   simp only [bK,Oi]at he;subst he
   exact⟨rfl,ht,hn⟩
 | [],_::_,_,t,t',tm,he,_,_,_=>by simp [bK]at he
 | _::_,[],_,t,t',tm,he,_,_,_=>by simp [bK]at he
 | p :: ps,e::es,_,t,t',tm,he,ht,hn,hr=>by
   cases hr with
   | cons _ v _ vs hv hs=>
   simp only [bK,Bool.cond_eq_ite,Nat.blt_eq]at he
   split at he
   · rename_i hp
     obtain⟨h1,h2,h3⟩:=dY ps es vs _ _ (tm.setIfInBounds p v) he (fun j e' hj=>by
      rcases T.get_set _ _ _ _ hj with⟨rfl,hh⟩ | ⟨hne,hg⟩
      · cases hh
        have:j<tm.size:=by omega
        simp [this,hv]
      · have:=ht j e' hg
        simp only [Array.getD_eq_getD_getElem?]at this ⊢
        rw [Array.getElem?_setIfInBounds_ne (Ne.symm hne)]
        exact this) (by simpa using hn) hs
     exact⟨by simp [h1],h2,h3⟩
   · cases he
theorem uI (S : bZ P B0 W0 r) (id:Nat) (args:List EVal) (h:H) (outs:List Out) (he:mM r id args h=some outs) (l C:Nat) (vs:Array Value) (ρ:Loc) (w:World) (c:Frame) (cs:List Frame)
  (hid:ρ id=some (l,C)) (hvs:VsRel ρ args vs.toList) (R:HRel P B0 W0 ρ h w) :
  ∃v h' u ρ' w' f0 tm x y,Out.val v h'∈outs∧(Instr.yield l vs).run P w=.ok (.round l f0 tm x y) w∧ρ.le ρ'∧VRel ρ' v u∧HRel P B0 W0 ρ' h' w' ∧
   Steps P (lone (Frame.round l f0 tm x y .normal) (c::cs) w) (lone (c.finish u) cs w'):=by
 unfold mM at he
 split at he
 · rename_i st pend n t ps x y dd hg
   split at he
   · rename_i t' hsp
     obtain⟨L,hw,hL1,hL2,hL3,hL4,hL5,hL6,hL7,hgo,_⟩:=fQ R hid hg
     obtain⟨p1,p2,p3⟩:=dY ps args vs.toList t t' L.tmps hsp hL4 hL3 hvs
     let tm:=(ps.zip vs.toList).foldl (fun(a:Array Value) (x:Tmp×Value)=>a.setIfInBounds x.1 x.2) L.tmps
     have hyield:(Instr.yield l vs).run P w=.ok (.round l L.fn tm x y) w:=by
      have hsz:¬(vs.size≠L.params.size):=by
       rw [←hL5]at p1;simp at p1;omega
      have hfold:(L.params.zip vs).foldl (fun(tmps:Array Value) (x:Tmp×Value)=>tmps.setIfInBounds x.1 x.2) L.tmps=tm:=by
       rw [←Array.foldl_toList,Array.toList_zip,hL5]
      simp only [Instr.yield,Instr.getLoop,Sem.run_bind,hgo,Result.andThen_ok,Sem.run_pure,if_neg hsz]
      rw [hL6,hL7]
      exact congrArg (fun q=>Result.ok (Next.round l L.fn q x y) w) hfold
     let b:Frame:={ (default:Frame)with fn:=L.fn,kind:=.normal,roundOf:=some l }
     have hround:Frame.round l L.fn tm x y .normal=fr b tm [] [.code x,.beginRound,.code y]:=rfl
     have F:FRel ρ ⟨n,t',[],some id⟩ b tm []:=⟨p3,p2,.nil,⟨C,hid⟩⟩
     obtain⟨l1,h1,h2⟩:=bM he
     obtain⟨e1,f1,hh1,hm1,t1,d1,w1,ρ1,hle1,F1,R1,A1⟩:=S.code _ _ _ _ h1 b tm [] [.beginRound,.code y] (c::cs) ρ w F R
     obtain⟨o1,g1,g2⟩:=h2 _ hm1
     cases e1 with
     | exit i=>simp [qH]at g1
     | ret=>simp [qH]at g1
     | normal =>
       simp only [qH]at g1
       split at g1
       · rename_i pend' n' tt pp aa bb dd' hg1
         have hid1:=hle1.own _ _ hid
         obtain⟨L1,hw1,hM1,hM2,hM3,hM4,hM5,hM6,hM7,hgo1,hput1⟩:=fQ R1 hid1 hg1
         obtain⟨hso1,R2⟩:=hput1 .busy pend' { L1 with state:=.busy } (by cases hM2;rfl)
         have hbegin:(Instr.beginRound l).run P w1=.ok () { w1 with heap:=w1.heap.setIfInBounds l (.loop { L1 with state:=.busy }) }:=by
          simp [Instr.beginRound,Instr.getLoop,hgo1,hso1,hM1]
         obtain⟨l2,h3,h4⟩:=bM g1
         obtain⟨e2,f2,hh2,hm2,t2,d2,w2,ρ2,hle2,F2,R3,A2⟩:=S.code _ _ _ _ h3 b t1 d1 [] (c::cs) ρ1 _ F1 R2
         obtain⟨o2,g3,g4⟩:=h4 _ hm2
         have s1:Steps P (lone (Frame.round l L.fn tm x y .normal) (c::cs) w) (lone (fr b t1 d1 [.code y]) (c::cs) { w1 with heap:=w1.heap.setIfInBounds l (.loop { L1 with state:=.busy }) }):=by
          rw [hround]
          exact Steps.trans A1 (.one (jO rfl hbegin))
         simp only [zY]at g3
         split at g3
         · rename_i st3 pend3 n3 t3 p3 a3 b3 d3 hg3
           have hid2:=hle2.own _ _ hid1
           obtain⟨L2,hw2,hN1,hN2,hN3,hN4,hN5,hN6,hN7,hgo2,hput2⟩:=fQ R3 hid2 hg3
           have hend:∀jump:Option Code,(Instr.endRound l jump).run P w2=.ok (.bool jump.isNone) { w2 with heap:=w2.heap.setIfInBounds l (.loop { L2 with state:=if jump.isNone then .ready else .done,pending:=jump }) }:=by
            intro jump
            obtain⟨hso,_⟩:=hput2 (if jump.isNone then .ready else .done) jump { L2 with state:=if jump.isNone then .ready else .done,pending:=jump } rfl
            simp only [Instr.endRound,Instr.getLoop,Sem.run_bind,hgo2,Result.andThen_ok,Sem.run_pure,hso]
           cases e2 with
           | normal=>
             simp only [Oi]at g3;subst g3
             obtain⟨_,R4⟩:=hput2 .ready none { L2 with state:=.ready,pending:=none } rfl
             refine⟨_,_,.bool true,ρ2,_,L.fn,tm,x,y,g2 _ (g4 _ (by simp)),hyield,Loc.le_trans hle1 hle2,.bool _,R4,Steps.trans s1 (Steps.trans A2 (.one ?_))⟩
             exact lM rfl rfl (hend none)
           | ret=>
             simp only [Oi]at g3;subst g3
             obtain⟨_,R4⟩:=hput2 .done (some .ret) { L2 with state:=.done,pending:=some .ret } rfl
             obtain⟨k',A2⟩:=A2
             refine⟨_,_,.bool false,ρ2,_,L.fn,tm,x,y,g2 _ (g4 _ (by simp)),hyield,Loc.le_trans hle1 hle2,.bool _,R4,Steps.trans s1 (Steps.trans A2 (.one ?_))⟩
             exact lL rfl rfl (hend (some .ret))
           | exit i=>
             simp only [Oi]at g3;subst g3
             obtain⟨_,R4⟩:=hput2 .done (some (.exit i)) { L2 with state:=.done,pending:=some (.exit i) } rfl
             obtain⟨k',hk',A2⟩:=A2
             refine⟨_,_,.bool false,ρ2,_,L.fn,tm,x,y,g2 _ (g4 _ (by simp)),hyield,Loc.le_trans hle1 hle2,.bool _,R4,Steps.trans s1 (Steps.trans A2 (.one ?_))⟩
             exact jM rfl rfl (by rw [hk'];rfl) (hend (some (.exit i)))
         · cases g3
       · cases g1
   · cases he
 · cases he
end
end Go.Ev
namespace Go.Ev
open Go.RowKit
section
variable {P:Program}{B0:Nat}{W0:eF}{g:G}{K:aH}
theorem jS (hm:P.follows .mixedOrders=true) (hng:fL P) (G:GRel B0 W0.w g) (hK:KOK P B0 W0 K):∀n,bZ P B0 W0 (run P g K n)
 | 0=>⟨fun _ _ _ _ h=>(by cases h),fun _ _ _ _ _ h=>(by cases h),fun _ _ _ _ h=>(by cases h),fun _ _ _ _ h=>(by cases h),fun _ _ _ _ h=>(by cases h)⟩
 | n + 1=>by
   have S:=jS hm hng G hK n
   refine⟨fun c f h outs he=>?_,fun all l f h outs he js hjs=>?_,fun fn args h outs he vs ρ w hvs R=>?_,fun id args h outs he=>?_,fun c f h outs he=>?_⟩
   · have he:qF P g K (run P g K n) c f h=some outs:=he
     exact fun b t d k cs ρ w F R=>yU hng S (fun id ops f h outs he b t d k cs ρ w F R=>pR hm hng G S hK id ops f h outs he b t d k cs ρ w F R) c f h outs he b t d k cs ρ w F R
   · have he:wD P g (run P g K n) all l f h=some outs:=he
     exact fun b t d k cs ρ w F R=>z9 hng G S all l f h outs he js hjs b t d k cs ρ w F R
   · have he:uH P g K (run P g K n) fn args h=some outs:=he
     unfold uH at he
     split at he
     · rename_i v hk
       simp only [Oi]at he;subst he
       refine(fT hK R hk hvs).mono ?_
       rintro e w' ⟨u,ρ',rfl,hle,hu,R'⟩
       exact⟨v,h,u,ρ',by simp,rfl,hle,hu,R'⟩
     · exact vN G S fn args h outs he vs ρ w hvs R
   · have he:mM (run P g K n) id args h=some outs:=he
     exact uI S id args h outs he
   · have he:jH ((run P g K n) (.code c f h)) (xZ (run P g K n) c)=some outs:=he
     exact fun b t d k cs ρ w F R=>vT S he b t d k cs ρ w F R
def Loc.start (fro:Nat→Option (List Value)):Loc:=⟨fun _=>none,fro,fun _ _=>none⟩
theorem HRel.start (w:World) {fro:Nat→Option (List Value)}(hF:FzOK fro w):HRel P w.heap.size ⟨w,fro⟩ (Loc.start fro) H.start w:=
 ⟨Below.refl _ _,Nat.le_refl _,fun _ _=>rfl,fun _ _ _ h=>(by cases h),fun _ _ _ _ _ _ _ h=>(by have:=T.get_full _ _ _ h;cases this),fun _ _ h=>(by have:=T.get_full _ _ _ h;cases this),
  hF,fun _ _ _ _ _ _ h=>(by have:=T.get_full _ _ _ h;cases this),fun _ _=>rfl,fun _ _ _=>rfl,fun _ _ _ h=>(by have:=T.get_full _ _ _ h;cases this),
  fun _ _ _ h=>(by have:=T.get_full _ _ _ h;cases this),fun _ _ _ _ _ _ _ _ _ h=>(by have:=T.get_full _ _ _ h;cases this)⟩
theorem sJ (hm:P.follows .mixedOrders=true) (hng:fL P) {w:World}{fro:Nat→Option (List Value)}(hF:FzOK fro w) (G:GRel w.heap.size w g) (hK:KOK P w.heap.size ⟨w,fro⟩ K) {n:Nat}{f:FuncId}{args:List EVal}{outs:List Out}
  (he:run P g K n (.call f args H.start)=some outs) {vs:Array Value} (hvs:VsRel (Loc.start fro) args vs.toList) :
  Calls P f vs w fun e w'=>∃v h' u ρ,Out.val v h'∈outs∧e=.returned u∧VRel ρ v u∧HRel P w.heap.size ⟨w,fro⟩ ρ h' w':=
 ((jS hm hng G hK n).call f args _ outs he vs _ w hvs (HRel.start w hF)).mono fun e w' ⟨v,h',u,ρ',hmem,he,_,hv,R⟩=>⟨v,h',u,ρ',hmem,he,hv,R⟩
theorem GRel.grow (G:GRel B0 W0.w g) {w:World}(hb:Below B0 W0.w w) (hs:B0≤w.heap.size):GRel w.heap.size w g:=fun i cells hi=>by
 obtain⟨h1,cs,e,fr,h2,h3⟩:=G i cells hi
 exact⟨by omega,cs,e,fr,by rw [hb.block _ h1];exact h2,h3⟩
theorem VRel.leave {fro:Nat→Option (List Value)}{w w':World}{ρ:Loc}{h:H}(R:HRel P w.heap.size ⟨w,fro⟩ ρ h w') {v v':EVal}{u:Value}(hv:VRel ρ v u) (hk:keepV v=some v') :
  ∃φ,VRel (Loc.more (Loc.start fro) w.heap.size φ) v' u∧FzOK (fun b=>if b<w.heap.size then fro b else φ b) w':=by
 have hfro:(fun b=>if b<w.heap.size then fro b else ρ.fro b)=ρ.fro:=by
  funext b
  split
  · rename_i hb;exact(R.fz0 b hb).symm
  · rfl
 refine⟨ρ.fro,?_,by rw [hfro];exact R.fz⟩
 have:Loc.more (Loc.start fro) w.heap.size ρ.fro=ρ.fz:=by
  unfold Loc.more Loc.start Loc.fz
  simp only [hfro]
 rw [this]
 exact iX hv hk
end
end Go.Ev
namespace Go.Ev
open Go.RowKit
structure Loc.leN (n:Nat) (ρ ρ':Loc):Prop where
 own:∀id x,id<n→ρ id=some x→ρ' id=some x
 fro:∀b pre,ρ.fro b=some pre→∃more,ρ'.fro b=some (pre++more)
 tau:∀id n x,ρ.tau id n=some x→ρ'.tau id n=some x
def Loc.leA (A:Option Nat) (ρ ρ':Loc):Prop:=∀n,A=some n→ρ.leN n ρ'
theorem Loc.leA_of {A:Option Nat}{ρ ρ':Loc}(h:ρ.le ρ'):ρ.leA A ρ':=fun _ _=>⟨fun id x _=>h.own id x,h.fro,h.tau⟩
theorem Loc.leA_refl {A:Option Nat}{ρ:Loc}:ρ.leA A ρ:=Loc.leA_of (Loc.le_refl ρ)
theorem Loc.leA_trans {A:Option Nat}{a b c:Loc}(h:a.leA A b) (k:b.leA A c):a.leA A c:=fun n e=>
 ⟨fun i x hi q=>(k n e).own i x hi ((h n e).own i x hi q),fun i pre q=>by
  obtain⟨m1,e1⟩:=(h n e).fro i pre q
  obtain⟨m2,e2⟩:=(k n e).fro i _ e1
  exact⟨m1++m2,by rw [e2,List.append_assoc]⟩,fun i m x q=>(k n e).tau i m x ((h n e).tau i m x q)⟩
def View (A:Option Nat) (P:Program) (f:EFr) (h:H) (f2:EFr) (h2:H):Prop:=
 ∀(B0:Nat) (W0:eF) (b:Frame) (t:Array Value) (d:List Deferred) (ρ:Loc) (w:World),FRel ρ f b t d→HRel P B0 W0 ρ h w→∃ρ2,ρ.leA A ρ2∧FRel ρ2 f2 b t d∧HRel P B0 W0 ρ2 h2 w
abbrev dG:=oZ→EFr→H→Prop
def Top (A:Option Nat) (P:Program) (g:G) (K:aH) (c:Code) (f:EFr) (h:H) (Q:dG):Prop:=
 ∀(B0:Nat) (W0:eF),GRel B0 W0.w g→KOK P B0 W0 K→∀(b:Frame) (t:Array Value) (d:List Deferred) (k:List Item) (cs:List Frame) (ρ:Loc) (w:World),FRel ρ f b t d→HRel P B0 W0 ρ h w →
  ∃e f' h',Q e f' h'∧∃t' d' w' ρ',ρ.leA A ρ'∧FRel ρ' f' b t' d'∧HRel P B0 W0 ρ' h' w'∧ArrE P (lone (fr b t d (.code c::k)) cs w) b k cs e t' d' w'
def CallT (P:Program) (g:G) (K:aH) (fn:FuncId) (args:List EVal) (h:H) (k:EVal→H→Prop):Prop:=
 ∀(B0:Nat) (W0:eF),GRel B0 W0.w g→KOK P B0 W0 K→∀(vs:Array Value) (ρ:Loc) (w:World),VsRel ρ args vs.toList→HRel P B0 W0 ρ h w →
  Calls P fn vs w fun e w'=>∃v h' u ρ',k v h'∧e=.returned u∧ρ.le ρ'∧VRel ρ' v u∧HRel P B0 W0 ρ' h' w'
def RoundT (P:Program) (g:G) (K:aH) (id:Nat) (args:List EVal) (h:H) (k:EVal→H→Prop):Prop:=
 ∀ (B0:Nat) (W0:eF),GRel B0 W0.w g→KOK P B0 W0 K→∀(l C:Nat) (vs:Array Value) (ρ:Loc) (w:World) (c:Frame) (cs:List Frame),ρ id=some (l,C)→VsRel ρ args vs.toList→HRel P B0 W0 ρ h w →
  ∃v h' u ρ' w' f0 tm x y,k v h'∧(Instr.yield l vs).run P w=.ok (.round l f0 tm x y) w∧ρ.le ρ'∧VRel ρ' v u∧HRel P B0 W0 ρ' h' w' ∧
   Steps P (lone (Frame.round l f0 tm x y .normal) (c::cs) w) (lone (c.finish u) cs w')
section
variable {A:Option Nat}{P:Program}{g:G}{K:aH}{c:Code}{f f2:EFr}{h h2:H}{Q Q':dG}
theorem View.refl:View A P f h f h:=fun _ _ _ _ _ ρ _ F R=>⟨ρ,Loc.leA_refl,F,R⟩
theorem View.trans {f3:EFr}{h3:H}(v1:View A P f h f2 h2) (v2:View A P f2 h2 f3 h3):View A P f h f3 h3:=fun B0 W0 b t d ρ w F R=>by
 obtain⟨ρ2,l2,F2,R2⟩:=v1 B0 W0 b t d ρ w F R
 obtain⟨ρ3,l3,F3,R3⟩:=v2 B0 W0 b t d ρ2 w F2 R2
 exact⟨ρ3,Loc.leA_trans l2 l3,F3,R3⟩
theorem Top.mono (H1:Top A P g K c f h Q) (hq:∀e f' h',Q e f' h'→Q' e f' h'):Top A P g K c f h Q':=fun B0 W0 G hK b t d k cs ρ w F R=>by
 obtain⟨e,f',h',hQ,rest⟩:=H1 B0 W0 G hK b t d k cs ρ w F R
 exact⟨e,f',h',hq _ _ _ hQ,rest⟩
theorem Top.view (v:View A P f h f2 h2) (H1:Top A P g K c f2 h2 Q):Top A P g K c f h Q:=fun B0 W0 G hK b t d k cs ρ w F R=>by
 obtain⟨ρ2,l2,F2,R2⟩:=v B0 W0 b t d ρ w F R
 obtain⟨e,f',h',hQ,t',d',w',ρ',l',F',R',A'⟩:=H1 B0 W0 G hK b t d k cs ρ2 w F2 R2
 exact⟨e,f',h',hQ,t',d',w',ρ',Loc.leA_trans l2 l',F',R',A'⟩
def Viewed (A:Option Nat) (P:Program) (Q:dG):dG:=fun e f h=>∃f2 h2,View A P f h f2 h2∧Q e f2 h2
theorem Top.unview (H1:Top A P g K c f h (Viewed A P Q)):Top A P g K c f h Q:=fun B0 W0 G hK b t d k cs ρ w F R=>by
 obtain⟨e,f',h',⟨f2,h2,v,hQ⟩,t',d',w',ρ',l1,F1,R1,A1⟩:=H1 B0 W0 G hK b t d k cs ρ w F R
 obtain⟨ρ2,l2,F2,R2⟩:=v B0 W0 b t' d' ρ' w' F1 R1
 exact⟨e,f2,h2,hQ,t',d',w',ρ2,Loc.leA_trans l1 l2,F2,R2,A1⟩
theorem Top.runDraw (hm:P.follows .mixedOrders=true) (hng:fL P) {n:Nat}{id:Nat}{ops:Array Oper}{outs:List Out}(he:Go.Ev.runDraw P g K (Go.Ev.run P g K n) ops f h=some outs) (hQ:∀e f' h',Out.code e f' h'∈outs→Q e f' h'):Top A P g K (.region id ops true) f h Q:=fun B0 W0 G hK b t d k cs ρ w F R=>by
 obtain⟨e,f',h',hmem,t',d',w',ρ',l1,F1,R1,A1⟩:=pR hm hng G (jS hm hng G hK n) hK id ops f h outs he b t d k cs ρ w F R
 exact⟨e,f',h',hQ _ _ _ hmem,t',d',w',ρ',Loc.leA_of l1,F1,R1,A1⟩
theorem Top.seq {x y:Code}(H1:Top A P g K x f h fun e f' h'=>match e with | .normal=>Top A P g K y f' h' Q|e=>Q e f' h'):Top A P g K (.seq x y) f h Q:=fun B0 W0 G hK b t d k cs ρ w F R=>by
 obtain⟨e,f1,h1,hQ,t1,d1,w1,ρ1,l1,F1,R1,A1⟩:=H1 B0 W0 G hK b t d (.code y::k) cs ρ w F R
 cases e with
 | normal=>
   obtain⟨e,f',h',hQ,t',d',w',ρ',l',F',R',A'⟩:=hQ B0 W0 G hK b t1 d1 k cs ρ1 w1 F1 R1
   exact⟨e,f',h',hQ,t',d',w',ρ',Loc.leA_trans l1 l',F',R',(ArrE.of_steps (Steps.trans (.one wB) A1) A')⟩
 | exit id=>
   obtain⟨k',e1,e2⟩:=A1
   exact⟨.exit id,f1,h1,hQ,t1,d1,w1,ρ1,l1,F1,R1,k',by rw [e1];rfl,.head wB e2⟩
 | ret=>
   obtain⟨k',e2⟩:=A1
   exact⟨.ret,f1,h1,hQ,t1,d1,w1,ρ1,l1,F1,R1,k',.head wB e2⟩
theorem Top.block {id:Nat}{x:Code}(H1:Top A P g K x f h fun e f' h'=>match e with | .exit i=>if i=id then Q .normal f' h' else Q (.exit i) f' h' | e=>Q e f' h'):Top A P g K (.block id x) f h Q:=fun B0 W0 G hK b t d k cs ρ w F R=>by
 obtain⟨e,f1,h1,hQ,t1,d1,w1,ρ1,l1,F1,R1,A1⟩:=H1 B0 W0 G hK b t d (.inBlock id::k) cs ρ w F R
 cases e with
 | normal=>exact⟨.normal,f1,h1,hQ,t1,d1,w1,ρ1,l1,F1,R1,.head jN (Steps.trans A1 (.one pA))⟩
 | exit i=>
   obtain⟨k',e1,e2⟩:=A1
   simp only at hQ
   split at hQ
   · rename_i hi
     subst hi
     exact⟨.normal,f1,h1,hQ,t1,d1,w1,ρ1,l1,F1,R1,.head jN (Steps.trans e2 (.one (zM (by rw [e1];simp [exitTo]))))⟩
   · rename_i hi
     refine⟨.exit i,f1,h1,hQ,t1,d1,w1,ρ1,l1,F1,R1,k',?_,.head jN e2⟩
     rw [e1]
     have:(id==i)=false:=by simpa using Ne.symm hi
     simp [exitTo,this]
 | ret=>
   obtain⟨k',e2⟩:=A1
   exact⟨.ret,f1,h1,hQ,t1,d1,w1,ρ1,l1,F1,R1,k',.head jN e2⟩
theorem Top.scope {x:Code}(H1:Top A P g K x f h Q):Top A P g K (.scope x) f h Q:=fun B0 W0 G hK b t d k cs ρ w F R=>by
 obtain⟨e,f1,h1,hQ,t1,d1,w1,ρ1,l1,F1,R1,A1⟩:=H1 B0 W0 G hK b t d (.inScope x::k) cs ρ w F R
 refine⟨e,f1,h1,hQ,t1,d1,w1,ρ1,l1,F1,R1,?_⟩
 cases e with
 | normal=>exact .head mL (Steps.trans A1 (.one o9))
 | exit id=>obtain⟨k',e1,e2⟩:=A1;exact⟨k',by rw [e1];rfl,.head mL e2⟩
 | ret=>obtain⟨k',e2⟩:=A1;exact⟨k',.head mL e2⟩
theorem Top.cond {o:Operand}{x y:Code}{q:Bool}(hc:ev f.tmps o=some (.bool q)) (H1:q=true→Top A P g K x f h Q) (H2:q=false→Top A P g K y f h Q):Top A P g K (.cond o x y) f h Q:=fun B0 W0 G hK b t d k cs ρ w F R=>by
 have hv:=F.erel _ _ hc
 generalize hce:({ tmps:=t,defers:=d }:Act).eval o=cv at hv
 cases hv
 cases q with
 | true=>
   obtain⟨e,f',h',hQ,t',d',w',ρ',l',F',R',A'⟩:=H1 rfl B0 W0 G hK b t d k cs ρ w F R
   exact⟨e,f',h',hQ,t',d',w',ρ',l',F',R',ArrE.of_steps (.one (qC hce)) A'⟩
 | false=>
   obtain⟨e,f',h',hQ,t',d',w',ρ',l',F',R',A'⟩:=H2 rfl B0 W0 G hK b t d k cs ρ w F R
   exact⟨e,f',h',hQ,t',d',w',ρ',l',F',R',ArrE.of_steps (.one (qC hce)) A'⟩
theorem Top.exit {id:Nat}(hQ:Q (.exit id) f h):Top A P g K (.exit id) f h Q:=fun _ _ _ _ _ t d k _ ρ w F R=>⟨_,f,h,hQ,t,d,w,ρ,Loc.leA_refl,F,R,k,rfl,.refl _ _⟩
theorem Top.ret (hQ:Q .ret f h):Top A P g K .ret f h Q:=fun _ _ _ _ _ t d k _ ρ w F R=>⟨_,f,h,hQ,t,d,w,ρ,Loc.leA_refl,F,R,k,.refl _ _⟩
theorem Top.skip (hQ:Q .normal f h):Top A P g K .skip f h Q:=fun _ _ _ _ _ t d _ _ ρ w F R=>⟨_,f,h,hQ,t,d,w,ρ,Loc.leA_refl,F,R,.one zJ⟩
theorem Top.label {l:Nat}(hQ:Q .normal f h):Top A P g K (.label l) f h Q:=fun _ _ _ _ _ t d _ _ ρ w F R=>⟨_,f,h,hQ,t,d,w,ρ,Loc.leA_refl,F,R,.one wC⟩
def aj9 {σ:Type}(A:Option Nat) (P:Program) (I:σ→EFr×H) (μ:σ→Nat) (s:σ) (Q:dG):dG:=fun e f' h'=>match e with
 | .normal=>∃s',μ s'<μ s∧View A P f' h' (I s').1 (I s').2
 | e=>Q e f' h'
theorem loopQ_normal {σ:Type}{I:σ→EFr×H}{μ:σ→Nat}{s:σ}:aj9 A P I μ s Q .normal f h=∃s',μ s'<μ s∧View A P f h (I s').1 (I s').2:=(rfl)
theorem loopQ_exit {σ:Type}{I:σ→EFr×H}{μ:σ→Nat}{s:σ}{i:Nat}:aj9 A P I μ s Q (.exit i) f h=Q (.exit i) f h:=(rfl)
theorem loopQ_ret {σ:Type}{I:σ→EFr×H}{μ:σ→Nat}{s:σ}:aj9 A P I μ s Q .ret f h=Q .ret f h:=(rfl)
theorem Top.loop {σ:Type}{x:Code}(I:σ→EFr×H) (μ:σ→Nat) (s0:σ) (v0:View A P f h (I s0).1 (I s0).2)
  (H1:∀s,Top A P g K x (I s).1 (I s).2 (aj9 A P I μ s Q)):Top A P g K (.loop x) f h Q:=fun B0 W0 G hK b t d k cs ρ w F R=>by
 obtain⟨ρ0,l0,F0,R0⟩:=v0 B0 W0 b t d ρ w F R
 have main:∀(m:Nat) (s:σ),μ s≤m→∀(t:Array Value) (d:List Deferred) (ρ:Loc) (w:World),FRel ρ (I s).1 b t d→HRel P B0 W0 ρ (I s).2 w →
   ∃e f' h',Q e f' h'∧∃t' d' w' ρ',ρ.leA A ρ'∧FRel ρ' f' b t' d'∧HRel P B0 W0 ρ' h' w'∧ArrE P (lone (fr b t d (.code x::.inLoop x::k)) cs w) b k cs e t' d' w':=by
  intro m
  induction m with
  | zero=>
    intro s hs t d ρ w F R
    obtain⟨e,f1,h1,hQ,t1,d1,w1,ρ1,l1,F1,R1,A1⟩:=H1 s B0 W0 G hK b t d (.inLoop x::k) cs ρ w F R
    cases e with
    | normal=>obtain⟨s',hlt,_⟩:=hQ;omega
    | exit id=>
      obtain⟨k',e1,e2⟩:=A1
      exact⟨.exit id,f1,h1,hQ,t1,d1,w1,ρ1,l1,F1,R1,k',by rw [e1];rfl,e2⟩
    | ret=>
      obtain⟨k',e2⟩:=A1
      exact⟨.ret,f1,h1,hQ,t1,d1,w1,ρ1,l1,F1,R1,k',e2⟩
  | succ m ih=>
    intro s hs t d ρ w F R
    obtain⟨e,f1,h1,hQ,t1,d1,w1,ρ1,l1,F1,R1,A1⟩:=H1 s B0 W0 G hK b t d (.inLoop x::k) cs ρ w F R
    cases e with
    | normal=>
      obtain⟨s',hlt,v⟩:=hQ
      obtain⟨ρ2,l2,F2,R2⟩:=v B0 W0 b t1 d1 ρ1 w1 F1 R1
      obtain⟨e,f',h',hQ,t',d',w',ρ',l',F',R',A'⟩:=ih s' (by omega) t1 d1 ρ2 w1 F2 R2
      exact⟨e,f',h',hQ,t',d',w',ρ',Loc.leA_trans l1 (Loc.leA_trans l2 l'),F',R',ArrE.of_steps (Steps.trans A1 (.one sF)) A'⟩
    | exit id=>
      obtain⟨k',e1,e2⟩:=A1
      exact⟨.exit id,f1,h1,hQ,t1,d1,w1,ρ1,l1,F1,R1,k',by rw [e1];rfl,e2⟩
    | ret=>
      obtain⟨k',e2⟩:=A1
      exact⟨.ret,f1,h1,hQ,t1,d1,w1,ρ1,l1,F1,R1,k',e2⟩
 obtain⟨e,f',h',hQ,t',d',w',ρ',l',F',R',A'⟩:=main (μ s0) s0 (Nat.le_refl _) t d ρ0 w F0 R0
 exact⟨e,f',h',hQ,t',d',w',ρ',Loc.leA_trans l0 l',F',R',ArrE.of_steps (.one zL) A'⟩
end
def EntryOK (P:Program) (B0:Nat) (W0:eF) (f:FuncId) (F:List EVal→Option EVal):Prop:=
 ∀args v,F args=some v→∀(vs:Array Value) (fro:Nat→Option (List Value)) (w:World),VsRel (Loc.start fro) args vs.toList→FzOK fro w→Below B0 W0.w w→B0≤w.heap.size →
  Calls P f vs w fun e w'=>∃u φ,e=.returned u∧VRel (Loc.more (Loc.start fro) w.heap.size φ) v u∧Below w.heap.size w w'∧FzOK (fun b=>if b<w.heap.size then fro b else φ b) w'
def Fn (P:Program) (g:G) (f:FuncId) (F:List EVal→Option EVal):Prop:=∀(B0:Nat) (W0:eF),GRel B0 W0.w g→EntryOK P B0 W0 f F
abbrev lG:=List (FuncId×(List EVal→Option EVal))
def aR:lG→aH
 | [],_,_=>none
 | (f,F)::l,k,args=>bif Nat.beq f k then F args else aR l k args
theorem known_nil {k:FuncId}{args:List EVal}:aR [] k args=none:=rfl
theorem known_cons {f k:FuncId}{F:List EVal→Option EVal}{l:lG}{args:List EVal}:aR ((f,F)::l) k args=if f=k then F args else aR l k args:=by
 have:aR ((f,F)::l) k args=bif Nat.beq f k then F args else aR l k args:=rfl
 rw [this]
 simp only [Nat.beq_eq,Bool.cond_eq_ite]
theorem known_hit {f:FuncId}{F:List EVal→Option EVal}{l:lG}{args:List EVal}:aR ((f,F)::l) f args=F args:=by rw [known_cons,if_pos rfl]
theorem Viewed.of {A:Option Nat}{P:Program}{Q Q':dG}(hV:∀e f h,Viewed A P Q e f h→Q' e f h):∀e f h,Q e f h→Q' e f h:=fun e f h hq=>hV e f h ⟨f,h,View.refl,hq⟩
section
variable {P:Program}{g:G}
theorem jY {B0:Nat}{W0:eF}(G:GRel B0 W0.w g):∀(l:lG),(∀p∈l,Fn P g p.1 p.2)→KOK P B0 W0 (aR l)
 | [],_=>fun _ _ _ h=>by cases h
 | (f, F)::l,hl=>by
   intro k args v hk
   simp only [aR,Bool.cond_eq_ite]at hk
   split at hk
   · rename_i hb
     obtain rfl:f=k:=Nat.eq_of_beq_eq_true hb
     exact hl (f,F) (by simp) B0 W0 G args v hk
   · exact jY G l (fun p hp=>hl p (by simp [hp])) k args v hk
noncomputable def m5 (fn:Func) (args:List EVal):EFr:=⟨Nat.max fn.ntmps args.length,qT args 0 (T.full (some undefE) 10),[],none⟩
def Ends (P:Program) (g:G) (fn:Func) (v:EVal):dG:=fun e f h=>
 (match e with | .normal=>True | .ret=>True | .exit _=>False)∧∃h2 es,cT h f.defers=some h2∧resultsE P g h2 f.tmps fn.results.toList=some es∧keepV (one es)=some v
theorem Fn.intro (hm:P.follows .mixedOrders=true) (hng:fL P) {f:FuncId}{F:List EVal→Option EVal}{fn:Func}(hfn:P.funcs[f]? = some fn) {c:Code}(hc:fn.body=some c) (l:lG) (hl:∀p∈l,Fn P g p.1 p.2)
  (H1:∀args v,F args=some v→∀Q:dG,(∀e f' h',Viewed none P (Ends P g fn v) e f' h'→Q e f' h')→Top none P g (aR l) c (m5 fn args) H.start Q):Fn P g f F:=by
 intro B0 W0 G args v hF vs fro w hvs hfz hb hs cs
 have G1:GRel w.heap.size w g:=G.grow hb hs
 have hK:KOK P w.heap.size ⟨w,fro⟩ (aR l):=jY (W0:=⟨w,fro⟩) G1 l hl
 let b:Frame:={ (default:Frame)with fn:=f,kind:=.normal,roundOf:=none }
 have henter:Frame.enter P f vs .normal=fr b (vs++Array.replicate (fn.ntmps-vs.size) undef) [] [.code c]:=by
  simp [Frame.enter,fr,hfn,hc,b]
 have F0:FRel (Loc.start fro) (m5 fn args) b (vs++Array.replicate (fn.ntmps-vs.size) undef) []:=by
  have hl:args.length=vs.size:=by rw [hvs.length];simp
  refine⟨?_,?_,.nil,trivial⟩
  · simp only [Array.size_append,Array.size_replicate]
    show _=Nat.max fn.ntmps args.length
    rw [hl]
    simp only [Nat.max_def];split<;>omega
  · refine fU args 0 _ _ (fun j e hj=>?_) (fun i e hi hor=>?_)
    · obtain ⟨u,hu,hr⟩:=hvs.get hj
      have hlt:j<vs.size:=by have:=(List.getElem?_eq_some_iff.1 hu).1;simpa using this
      have:(vs++Array.replicate (fn.ntmps-vs.size) undef).getD (0+j) undef=u:=by
       rw [Array.getD_eq_getD_getElem?,Nat.zero_add,Array.getElem?_append_left hlt]
       have:vs[j]? = some u:=by simpa using hu
       rw [this];rfl
      rw [this];exact hr
    · have:=T.get_full _ _ _ hi
      cases this
      have:(vs++Array.replicate (fn.ntmps-vs.size) undef).getD i undef=undef:=by
       rw [Array.getD_eq_getD_getElem?,Array.getElem?_append_right (by omega),Array.getElem?_replicate]
       split<;>rfl
      rw [this];exact bA _
 obtain⟨e,f1,h1,⟨hend,h2,es,hta,hes,hkv⟩,t1,d1,w1,ρ1,_,F1,R1,A1⟩:=Top.unview (H1 args v hF _ (fun _ _ _ h=>h)) w.heap.size ⟨w,fro⟩ G1 hK b _ [] [] cs (Loc.start fro) w F0 (HRel.start w hfz)
 rw [←henter]at A1
 have fin:∀(todo:List Item),Steps P (lone (Frame.enter P f vs .normal) cs w) (lone { fr b t1 d1 todo with mode:=.returning } cs w1) →
   ∃(e:Ending) (w':World) (fr':Frame),(∃u φ,e=.returned u∧VRel (Loc.more (Loc.start fro) w.heap.size φ) v u∧Below w.heap.size w w'∧FzOK (fun b=>if b<w.heap.size then fro b else φ b) w')∧Comes P (lone (Frame.enter P f vs .normal) cs w) (lone fr' cs w') e∧fr'.fn=f∧fr'.leaving P w' e:=by
  intro todo hs
  obtain⟨w2,R2,s2⟩:=dK (b:=b) (todo:=todo) (t:=t1) (cs:=cs) F1.defers R1 hta
  obtain⟨us,hu1,hu2⟩:=cH G1 R2 F1.tmps _ _ hes
  obtain⟨φ,hv,hF⟩:=(uM hu2).leave R2 hkv
  refine⟨.returned (if h:us.toArray.size=1 then us.toArray[0]else .tuple us.toArray),w2,_,⟨_,φ,rfl,hv,R2.below,hF⟩,Steps.trans hs s2,rfl,rfl,rfl,rfl,fn,hfn,?_⟩
  show(results fn t1).run P w2=_
  unfold results
  rw [Array.mapM_eq_mapM_toList]
  simp only [Sem.run_bind,Sem.run_map,Sem.run_pure]
  have:=congrArg (fun q=>(q.andThen fun a w'=>(Result.ok (a.toArray:Array Value) w':Result (Array Value))).andThen fun vs w'=>(Result.ok (if h:vs.size=1 then vs[0]else Value.tuple vs) w':Result Value)) hu1
  exact this
 cases e with
 | ret=>
   obtain⟨k',s1⟩:=A1
   exact fin _ (Steps.trans s1 (.one (zK rfl)))
 | normal=>exact fin _ (Steps.trans A1 (.one (zN rfl)))
 | exit id=>exact hend.elim
end
end Go.Ev
namespace Go.Ev
open Go.RowKit
def look:List (Nat×EVal)→Nat→Option EVal
 | [],_=>none
 | (j,v)::l,i=>if j=i then some v else look l i
def T.has {α:Type}:T α→Nat→Prop
 | .nil,_=>False
 | .node _ l r,n=>if n=0 then True else if n % 2=1 then l.has (n / 2)else r.has (n / 2-1)
theorem T.get_node {α:Type}(v:Option α) (l r:T α) (j:Nat):T.get (.node v l r) j=if j=0 then v else if j % 2=1 then T.get l (j / 2)else T.get r (j / 2-1):=by
 have:T.get (.node v l r) j=bif Nat.beq j 0 then v else bif Nat.beq (Nat.mod j 2) 1 then T.get l (Nat.div j 2)else T.get r (Nat.pred (Nat.div j 2)):=rfl
 rw [this]
 simp only [Nat.beq_eq,Bool.cond_eq_ite,Nat.pred_eq_sub_one]
 rfl
theorem T.set_node {α:Type}(v:Option α) (l r:T α) (i:Nat) (x:Option α):T.set (.node v l r) i x=if i=0 then .node x l r else if i % 2=1 then .node v (T.set l (i / 2) x) r else .node v l (T.set r (i / 2-1) x):=by
 have:T.set (.node v l r) i x=bif Nat.beq i 0 then .node x l r else bif Nat.beq (Nat.mod i 2) 1 then .node v (T.set l (Nat.div i 2) x) r else .node v l (T.set r (Nat.pred (Nat.div i 2)) x):=rfl
 rw [this]
 simp only [Nat.beq_eq,Bool.cond_eq_ite,Nat.pred_eq_sub_one]
 rfl
theorem T.get_set_same {α:Type}(t:T α) (i:Nat) (x:Option α) (h:t.has i):(t.set i x).get i=x:=by
 induction t generalizing i with
 | nil=>exact h.elim
 | node v l r hl hr=>
   rw [T.set_node]
   unfold T.has at h
   split
   · rename_i h0;subst h0;rw [T.get_node];simp
   · rename_i h0
     rw [if_neg h0]at h
     split
     · rename_i h1
       rw [if_pos h1]at h
       rw [T.get_node,if_neg h0,if_pos h1];exact hl _ h
     · rename_i h1
       rw [if_neg h1]at h
       rw [T.get_node,if_neg h0,if_neg h1];exact hr _ h
theorem T.get_set_ne {α:Type}(t:T α) (i j:Nat) (x:Option α) (h:j≠i):(t.set i x).get j=t.get j:=by
 induction t generalizing i j with
 | nil=>rfl
 | node v l r hl hr=>
   rw [T.set_node]
   split
   · rename_i h0;subst h0;rw [T.get_node,T.get_node,if_neg h,if_neg h]
   · rename_i h0
     split
     · rename_i h1
       rw [T.get_node,T.get_node]
       split
       · rfl
       · split
         · exact hl _ _ (by omega)
         · rfl
     · rename_i h1
       rw [T.get_node,T.get_node]
       split
       · rfl
       · split
         · rfl
         · exact hr _ _ (by omega)
theorem T.has_set {α:Type}(t:T α) (i j:Nat) (x:Option α):(t.set i x).has j↔t.has j:=by
 induction t generalizing i j with
 | nil=>exact Iff.rfl
 | node v l r hl hr=>
   rw [T.set_node]
   split
   · simp only [T.has]
   · split
     · simp only [T.has]
       split
       · rfl
       · split
         · exact hl _ _
         · rfl
     · simp only [T.has]
       split
       · rfl
       · split
         · rfl
         · exact hr _ _
theorem T.has_full {α:Type}(x:Option α) (n i:Nat) (h:i+1<2 ^ n):(T.full x n).has i:=by
 induction n generalizing i with
 | zero=>omega
 | succ n ih=>
   unfold T.full T.has
   split
   · trivial
   · split
     · exact ih _ (by rw [Nat.pow_succ]at h;omega)
     · exact ih _ (by rw [Nat.pow_succ]at h;omega)
noncomputable def T.ofL (l:List (Nat×EVal)):T EVal:=l.foldr (fun p t=>t.set p.1 (some p.2)) (T.full none 10)
theorem T.has_ofL (l:List (Nat×EVal)) (i:Nat) (h:i<1000):(T.ofL l).has i:=by
 induction l with
 | nil=>exact T.has_full _ _ _ (by omega)
 | cons p l ih=>exact(T.has_set _ _ _ _).2 ih
theorem T.get_ofL (l:List (Nat×EVal)) (i:Nat) (h:i<1000):(T.ofL l).get i=look l i:=by
 induction l with
 | nil=>
   cases hq:(T.full (none:Option EVal) 10).get i with
   | none=>exact hq
   | some e=>cases T.get_full _ _ _ hq
 | cons p l ih=>
   obtain⟨j,v⟩:=p
   show(T.set (T.ofL l) j (some v)).get i=look ((j,v)::l) i
   unfold look
   split
   · rename_i e;subst e;exact T.get_set_same _ _ _ (T.has_ofL l _ h)
   · rename_i e;rw [T.get_set_ne _ _ _ _ (Ne.symm e)];exact ih
noncomputable def mkF (n:Nat) (l:List (Nat×EVal)):EFr:=⟨n,T.ofL l,[],none⟩
theorem mkF_putd {n:Nat}{l:List (Nat×EVal)}{i:Nat}{v:EVal}(h:i<n):(mkF n l).putd (some i) v=mkF n ((i,v)::l):=by
 unfold EFr.putd mkF
 simp only [Nat.blt_eq,Bool.cond_eq_ite,h,if_true]
 rfl
theorem mkF_putd_none {n:Nat}{l:List (Nat×EVal)}{v:EVal}:(mkF n l).putd none v=mkF n l:=(rfl)
theorem mkF_tmps {n:Nat}{l:List (Nat×EVal)}:(mkF n l).tmps=T.ofL l:=(rfl)
theorem mkF_defers {n:Nat}{l:List (Nat×EVal)}:(mkF n l).defers=[]:=(rfl)
theorem wN {P:Program}{ρ:Loc}{ty el:TypeId}{x y:Operand}{u v:Value}(hu:VRel ρ (.lsl []) u) (hv:VRel ρ .nilslice v) (hk:P.underlying ty=some (.slice el)) (w:World) :
  ∃q,(do eqGuard .eql ty x y u v;binOp .eql ty u v:Sem Value).run P w=.ok (.bool q) w:=by
 cases hv
 have hg:∀a n m,(eqGuard .eql ty x y (.slice a n m) (.slice none 0 0)).run P w=.ok () w:=fun a n m=>by rw [eqGuard_at_slice];rfl
 cases hu with
 | lsl _ us b o c sz pre rest hf hs hw ho hz hc=>
   refine⟨false,?_⟩
   have:=(aW (P:=P) (w:=w) (t:=ty) (u:=.slice (some ⟨b,o,none⟩) 0 c) (v:=.slice none 0 0) (r:=false) (fun d=>by simp [Op.equalIn,run_underlying hk]) (by simp only [binOp]) (by simp only [binOp])).1
   simp [hg,this]
 | lsl0 p c=>
   refine⟨false,?_⟩
   have:=(aW (P:=P) (w:=w) (t:=ty) (u:=.slice (some p) 0 c) (v:=.slice none 0 0) (r:=false) (fun d=>by simp [Op.equalIn,run_underlying hk]) (by simp only [binOp]) (by simp only [binOp])).1
   simp [hg,this]
 | lsln=>
   refine⟨true,?_⟩
   have:=(aW (P:=P) (w:=w) (t:=ty) (u:=.slice none 0 0) (v:=.slice none 0 0) (r:=true) (fun d=>by simp [Op.equalIn,run_underlying hk]) (by simp only [binOp]) (by simp only [binOp])).1
   simp [hg,this]
def ndEq (P:Program) (ty:TypeId):Option EVal→Option EVal→Bool
 | some (.lsl []),some .nilslice=>match P.underlying ty with
   | some (.slice _)=>true
   | _=>false
 | _,_=>false
noncomputable def ndOp (P:Program) (t:T EVal) (o:Oper):Bool:=
 match o.op with
 | .binOp .eql ty x y _=>ndEq P ty (ev t x) (ev t y)
 | _=>false
def wpNd (k:EVal→H→Prop) (h:H):Bool→Prop
 | true=>∀q:Bool,k (.bool q) h
 | false=>False
section
variable {A:Option Nat}{P:Program}{g:G}{K:aH}
def p9 (P:Program) (g:G) (K:aH) (nd:Bool) (h0:H) (k:EVal→H→Prop):Option EOut→Prop
 | some (.val v h)=>k v h
 | some (.enter fn args h)=>match kcall P K h fn args with
   | some v=>k v h
   | none=>CallT P g K fn args h k
 | some (.yield id args h)=>RoundT P g K id args h k
 | none=>wpNd k h0 nd
def ajX (P:Program) (g:G) (K:aH) (o:Oper) (f:EFr) (h:H) (k:EVal→H→Prop):Prop:=
 match o.op with
 | .next it false=>match wM h (ev f.tmps it)with
   | some l=>∀p∈l,k p.1 p.2
   | none=>False
 | _=>p9 P g K (ndOp P f.tmps o) h k (eOp P g h f.tmps o)
def jD (P:Program) (g:G) (K:aH) (all:Array Oper) (Q:EFr→H→Prop):List Oper→EFr→H→Prop
 | [],f,h=>Q f h
 | o::rest,f,h=>match wantedE all f.tmps o with
   | some true=>ajX P g K o f h (fun v h'=>jD P g K all Q rest (f.putd o.dst v) h')
   | some false=>jD P g K all Q rest (f.putd o.dst undefE) h
   | none=>False
def zG (P:Program) (g:G) (K:aH) (all:Array Oper) (Q:EFr→H→Prop) (d:Option Tmp) (rest:List Oper) (f:EFr) (v:EVal) (h:H):Prop:=jD P g K all Q rest (f.putd d v) h
def iO (P:Program) (g:G) (K:aH) (all:Array Oper) (Q:EFr→H→Prop) (o:Oper) (rest:List Oper) (f:EFr) (h:H):Option Bool→Prop
 | some true=>ajX P g K o f h (zG P g K all Q o.dst rest f)
 | some false=>jD P g K all Q rest (f.putd o.dst undefE) h
 | none=>False
theorem wpOps_nil {P:Program}{g:G}{K:aH}{all:Array Oper}{Q:EFr→H→Prop}{f:EFr}{h:H}:jD P g K all Q [] f h=Q f h:=(rfl)
theorem wpOps_cons {P:Program}{g:G}{K:aH}{all:Array Oper}{Q:EFr→H→Prop}{o:Oper}{rest:List Oper}{f:EFr}{h:H} :
  jD P g K all Q (o::rest) f h=iO P g K all Q o rest f h (wantedE all f.tmps o):=by
 simp only [jD]
 unfold iO
 split<;>rfl
theorem eX {P:Program}{g:G}{K:aH}{all:Array Oper}{Q:EFr→H→Prop}{o:Oper}{rest:List Oper}{f:EFr}{h:H}{q:Bool}(h1:q=true→iO P g K all Q o rest f h (some true)) (h2:q=false→iO P g K all Q o rest f h (some false)) :
  iO P g K all Q o rest f h (some q):=by
 cases q with
 | true=>exact h1 rfl
 | false=>exact h2 rfl
theorem m0 (hng : fL P) {B0:Nat}{W0:eF}(G:GRel B0 W0.w g) (hK:KOK P B0 W0 K) {all:Array Oper}{Q:EFr→H→Prop}:∀(l:List Oper) (f:EFr) (h:H),jD P g K all Q l f h→∀(js:List Nat),js.map (all[·]?)=l.map some →
  ∀(b:Frame) (t:Array Value) (d:List Deferred) (k:List Item) (cs:List Frame) (ρ:Loc) (w:World),FRel ρ f b t d→HRel P B0 W0 ρ h w →
  ∃f' h',Q f' h'∧∃t' w' ρ',ρ.le ρ'∧FRel ρ' f' b t' d∧HRel P B0 W0 ρ' h' w'∧Steps P (lone (fr b t d (.inRegion all js::k)) cs w) (lone (fr b t' d k) cs w')
 | [],f,h,hq,js,hjs,b,t,d,k,cs,ρ,w,F,R=>by
   obtain rfl:js=[]:=by simpa using hjs
   exact⟨f,h,hq,t,w,ρ,Loc.le_refl _,F,R,.one cG⟩
 | o :: rest, f, h,hq,js,hjs,b,t,d,k,cs,ρ,w,F,R=>by
   cases js with
   | nil=>simp at hjs
   | cons i js =>
     simp only [List.map_cons,List.cons.injEq]at hjs
     obtain⟨ho,hjs⟩:=hjs
     have next:∀ {e:EVal} {h':H} {ρ':Loc} {v:Value} {w':World},jD P g K all Q rest (f.putd o.dst e) h'→ρ.le ρ'→VRel ρ' e v→HRel P B0 W0 ρ' h' w' →
       Steps P (lone (fr b t d (.inRegion all (i::js)::k)) cs w) (lone (fr b (kF t o.dst v) d (.inRegion all js::k)) cs w') →
       ∃f' h',Q f' h'∧∃t' w' ρ',ρ.le ρ'∧FRel ρ' f' b t' d∧HRel P B0 W0 ρ' h' w'∧Steps P (lone (fr b t d (.inRegion all (i::js)::k)) cs w) (lone (fr b t' d k) cs w'):=by
      intro e h' ρ' v w' hr hle hv R' hst
      obtain⟨f2,h2,hm,t2,w2,ρ2,l2,F2,R2,S2⟩:=m0 hng G hK rest _ _ hr js hjs b _ d k cs ρ' w' ((F.mono hle).put hv) R'
      exact⟨f2,h2,hm,t2,w2,ρ2,Loc.le_trans hle l2,F2,R2,hst.trans S2⟩
     unfold jD at hq
     split at hq
     rotate_left
     · rename_i hw
       exact next hq (Loc.le_refl _) (bA _) R (.one (hJ ho (aJ F.tmps hw)))
     rotate_left
     · rename_i hw
       have hwant:=aJ F.tmps hw
       · have hr:=hq
         clear hq
         unfold ajX at hr
         split at hr
         · rename_i it hop
           split at hr
           · rename_i l hl
             cases hx:ev f.tmps it with
             | none=>rw [hx]at hl;cases hl
             | some x=>
               rw [hx]at hl
               obtain⟨e,h',u,w',hm,hrun,hv,R'⟩:=fP R o.type (F.erel _ _ hx) hl
               refine next (hr _ hm) (Loc.le_refl _) hv R' (.one (bX ho hwant (fun c hc=>by rw [hop]at hc;cases hc) ?_))
               unfold execOp
               rw [hop]
               simp only [Sem.run_bind]
               rw [hrun]
               rfl
           · exact hr.elim
         · unfold p9 at hr
           split at hr
           · rename_i v h' hop
             obtain⟨w',ρ',hle,R',hres⟩:=bG hng G R F.erel hop
             rcases hres with⟨u,hrun,hv⟩ | ⟨hrun,rfl⟩
             · exact next hr hle hv R' (.one (bX ho hwant (aD hop) hrun))
             · exact next hr hle (bA _) R' (.one (jL ho hwant (aD hop) hrun))
           · rename_i fn args h' hop
             obtain⟨rfl,vs,hrun,hvs⟩:=bG hng G R F.erel hop
             split at hr
             · rename_i v hk
               obtain⟨e1,w1,fr1,⟨u,ρ',rfl,hle,hv,R'⟩,hcomes,hfn,hleave⟩:=fT hK R hk hvs (fr b t d (.inRegion all (i::js)::k)::cs)
               refine next hr hle hv R' ?_
               refine .head (fN ho hwant (aD hop) hrun) (Steps.trans hcomes (.one ?_))
               rw [←aT ho]
               exact step_leave_returned hleave
             · obtain ⟨e1,w1,fr1,⟨v,h2,u,ρ',hk2,rfl,hle,hv,R'⟩,hcomes,hfn,hleave⟩:=hr B0 W0 G hK _ ρ w hvs R (fr b t d (.inRegion all (i::js)::k)::cs)
               refine next hk2 hle hv R' ?_
               refine .head (fN ho hwant (aD hop) hrun) (Steps.trans hcomes (.one ?_))
               rw [←aT ho]
               exact step_leave_returned hleave
           · rename_i id args h' hop
             obtain⟨rfl,l,C,vs,hid,hrun,hvs⟩:=bG hng G R F.erel hop
             obtain⟨v,h2,u,ρ',w',f0,tm,x,y,hk2,hy,hle,hv,R',hsteps⟩:=hr B0 W0 G hK l C vs ρ w (fr b t d (.inRegion all (i::js)::k)) cs hid hvs R
             refine next hk2 hle hv R' ?_
             refine .head (qB ho hwant (aD hop) (by rw [hrun];exact hy)) ?_
             rw [←aT ho]
             exact hsteps
           · cases hnd:ndOp P f.tmps o with
             | false=>rw [hnd]at hr;exact hr.elim
             | true=>
               rw [hnd]at hr
               unfold ndOp at hnd
               split at hnd
               rotate_left
               · cases hnd
               rename_i ty x y z hop2
               have hx:=F.erel x
               have hy:=F.erel y
               generalize ev f.tmps x=ex at hnd hx
               generalize ev f.tmps y=ey at hnd hy
               unfold ndEq at hnd
               split at hnd
               rotate_left
               · cases hnd
               split at hnd
               rotate_left
               · cases hnd
               rename_i el hk
               obtain⟨q,hq⟩:=wN (hx _ rfl) (hy _ rfl) hk w (x:=x) (y:=y)
               refine next (hr q) (Loc.le_refl _) (.bool q) R (.one (bX ho hwant (fun c hc=>by rw [hop2]at hc;cases hc) ?_))
               unfold execOp
               rw [hop2]
               simp only [Sem.run_bind]at hq ⊢
               rw [hq]
               rfl
     · exact hq.elim
def seqQ (wb:EFr→H→dG→Prop) (Q:dG):dG:=fun e f h=>match e with
 | .normal=>wb f h Q
 | e=>Q e f h
theorem seqQ_normal {wb:EFr→H→dG→Prop}{Q:dG}{f:EFr}{h:H}:seqQ wb Q .normal f h=wb f h Q:=(rfl)
theorem seqQ_exit {wb:EFr→H→dG→Prop}{Q:dG}{f:EFr}{h:H}{i:Nat}:seqQ wb Q (.exit i) f h=Q (.exit i) f h:=(rfl)
theorem seqQ_ret {wb:EFr→H→dG→Prop}{Q:dG}{f:EFr}{h:H}:seqQ wb Q .ret f h=Q .ret f h:=(rfl)
def tR (id:Nat) (Q:dG):dG:=fun e f h=>match e with
 | .exit i=>if i=id then Q .normal f h else Q (.exit i) f h
 | e=>Q e f h
theorem blockQ_normal {id:Nat}{Q:dG}{f:EFr}{h:H}:tR id Q .normal f h=Q .normal f h:=(rfl)
theorem blockQ_exit {id:Nat}{Q:dG}{f:EFr}{h:H}{i:Nat}:tR id Q (.exit i) f h=if i=id then Q .normal f h else Q (.exit i) f h:=(rfl)
theorem blockQ_ret {id:Nat}{Q:dG}{f:EFr}{h:H}:tR id Q .ret f h=Q .ret f h:=(rfl)
def condQ (a b:Prop):Option EVal→Prop
 | some (.bool q)=>(q=true→a)∧(q=false→b)
 | _=>False
def wp (A:Option Nat) (P:Program) (g:G) (K:aH):Code→EFr→H→dG→Prop
 | .skip,f,h,Q=>Q .normal f h
 | .label _,f,h,Q=>Q .normal f h
 | .region _ ops false,f,h,Q=>jD P g K ops (Q .normal) ops.toList f h
 | .seq a b,f,h,Q=>wp A P g K a f h (seqQ (wp A P g K b) Q)
 | .cond c a b,f,h,Q=>match ev f.tmps c with
   | some (.bool q)=>(q=true→wp A P g K a f h Q)∧(q=false→wp A P g K b f h Q)
   | _=>False
 | .block id a,f,h,Q=>wp A P g K a f h (tR id Q)
 | .scope a,f,h,Q=>wp A P g K a f h Q
 | .exit id,f,h,Q=>Q (.exit id) f h
 | .ret,f,h,Q=>Q .ret f h
 | c,f,h,Q=>Top A P g K c f h Q
def wpCond (A:Option Nat) (P:Program) (g:G) (K:aH) (a b:Code) (f:EFr) (h:H) (Q:dG):Option EVal→Prop
 | some (.bool true)=>wp A P g K a f h Q
 | some (.bool false)=>wp A P g K b f h Q
 | _=>False
theorem wp_cond {c:Operand}{a b:Code}{f:EFr}{h:H}{Q:dG}:wp A P g K (.cond c a b) f h Q=wpCond A P g K a b f h Q (ev f.tmps c):=by
 simp only [wp]
 generalize ev f.tmps c=x
 cases x with
 | none=>rfl
 | some e=>
   cases e with
   | bool q=>cases q<;>simp [wpCond]
   | _=>rfl
theorem eZ {a b:Code}{f:EFr}{h:H}{Q:dG}{q:Bool}(h1:q=true→wp A P g K a f h Q) (h2:q=false→wp A P g K b f h Q):wpCond A P g K a b f h Q (some (.bool q)):=by
 cases q with
 | true=>exact h1 rfl
 | false=>exact h2 rfl
theorem cF (hng:fL P):∀(c:Code) (f:EFr) (h:H) (Q:dG),wp A P g K c f h Q→Top A P g K c f h Q
 | .skip,f,h,Q,hw=>.skip hw
 | .label _,f,h,Q,hw=>.label hw
 | .region _ ops false,f,h,Q,hw=>fun B0 W0 G hK b t d k cs ρ w F R=>by
   obtain ⟨f',h',hq,t',w',ρ',hle,F',R',hst⟩:=m0 hng G hK _ f h hw (List.range ops.size) (by
     apply List.ext_getElem?
     intro i
     simp only [List.getElem?_map]
     by_cases hi:i<ops.size
     · rw [List.getElem?_range hi];simp [hi]
     · rw [List.getElem?_eq_none (by simpa using Nat.le_of_not_lt hi),List.getElem?_eq_none (by simpa using Nat.le_of_not_lt hi)];rfl) b t d k cs ρ w F R
   exact⟨.normal,f',h',hq,t',d,w',ρ',Loc.leA_of hle,F',R',.head m6 hst⟩
 | .region _ ops true,f,h,Q,hw=>hw
 | .seq a b,f,h,Q,hw=>.seq ((cF hng a f h _ hw).mono fun e f' h' hq=>by
   cases e with
   | normal=>exact cF hng b f' h' Q hq
   | exit i=>exact hq
   | ret=>exact hq)
 | .cond c a b,f,h,Q,hw=>by
   unfold wp at hw
   split at hw
   · rename_i q hq
     exact .cond hq (fun e=>cF hng a f h Q (hw.1 e)) (fun e=>cF hng b f h Q (hw.2 e))
   · exact hw.elim
 | .block id a,f,h,Q,hw=>.block (cF hng a f h _ hw)
 | .scope a,f,h,Q,hw=>.scope (cF hng a f h _ hw)
 | .exit id,f,h,Q,hw=>.exit hw
 | .ret,f,h,Q,hw=>.ret hw
 | .loop _,f,h,Q,hw=>hw
 | .rangeFunc _ _ _ _,f,h,Q,hw=>hw
 | .goto _,f,h,Q,hw=>hw
 | .refuse _,f,h,Q,hw=>hw
end
end Go.Ev
namespace Go.Ev
open Go.RowKit
section
variable {A:Option Nat}{P:Program}{g:G}{K:aH}
theorem wp_region {i:Nat}{ops:Array Oper}{f:EFr}{h:H}{Q:dG}:wp A P g K (.region i ops false) f h Q=jD P g K ops (Q .normal) ops.toList f h:=(rfl)
theorem wp_seq {a b:Code}{f:EFr}{h:H}{Q:dG}:wp A P g K (.seq a b) f h Q=wp A P g K a f h (seqQ (wp A P g K b) Q):=(rfl)
theorem wp_block {id:Nat}{a:Code}{f:EFr}{h:H}{Q:dG}:wp A P g K (.block id a) f h Q=wp A P g K a f h (tR id Q):=(rfl)
theorem wp_scope {a:Code}{f:EFr}{h:H}{Q:dG}:wp A P g K (.scope a) f h Q=wp A P g K a f h Q:=(rfl)
theorem wp_exit {id:Nat}{f:EFr}{h:H}{Q:dG}:wp A P g K (.exit id) f h Q=Q (.exit id) f h:=(rfl)
theorem wp_skip {f:EFr}{h:H}{Q:dG}:wp A P g K .skip f h Q=Q .normal f h:=(rfl)
theorem wp_label {l:Nat}{f:EFr}{h:H}{Q:dG}:wp A P g K (.label l) f h Q=Q .normal f h:=(rfl)
theorem wp_ret {f:EFr}{h:H}{Q:dG}:wp A P g K .ret f h Q=Q .ret f h:=(rfl)
theorem rX {c:Code}{f:EFr}{h:H}{Q:dG}(H:Top A P g K (.loop c) f h Q):wp A P g K (.loop c) f h Q:=H
theorem wpStep_true {all:Array Oper}{Q:EFr→H→Prop}{o:Oper}{rest:List Oper}{f:EFr}{h:H}:iO P g K all Q o rest f h (some true)=ajX P g K o f h (zG P g K all Q o.dst rest f):=(rfl)
theorem wpStep_false {all:Array Oper}{Q:EFr→H→Prop}{o:Oper}{rest:List Oper}{f:EFr}{h:H}:iO P g K all Q o rest f h (some false)=jD P g K all Q rest (f.putd o.dst undefE) h:=(rfl)
def wpKc (k:EVal→H→Prop) (h:H) (c:Prop):Option EVal→Prop
 | some v=>k v h
 | none=>c
theorem wpKc_some {k:EVal→H→Prop}{h:H}{c:Prop}{v:EVal}:wpKc k h c (some v)=k v h:=(rfl)
theorem wpKc_none {k:EVal→H→Prop}{h:H}{c:Prop}:wpKc k h c none=c:=(rfl)
theorem wpOut_val {nd:Bool}{h0:H}{k:EVal→H→Prop}{h:H}{v:EVal}:p9 P g K nd h0 k (some (.val v h))=k v h:=(rfl)
theorem wpOut_enter {nd:Bool}{h0:H}{k:EVal→H→Prop}{h:H}{fn:FuncId}{args:List EVal}:p9 P g K nd h0 k (some (.enter fn args h))=wpKc k h (CallT P g K fn args h k) (kcall P K h fn args):=by
 show(match kcall P K h fn args with|some v=>k v h|none=>CallT P g K fn args h k)=_
 cases kcall P K h fn args<;>rfl
theorem wpOut_yield {nd:Bool}{h0:H}{k:EVal→H→Prop}{h:H}{id:Nat}{args:List EVal}:p9 P g K nd h0 k (some (.yield id args h))=RoundT P g K id args h k:=(rfl)
theorem wpOut_none {nd:Bool}{h0:H}{k:EVal→H→Prop}:p9 P g K nd h0 k none=wpNd k h0 nd:=(rfl)
theorem wpNd_true {k:EVal→H→Prop}{h:H}:wpNd k h true=∀q:Bool,k (.bool q) h:=(rfl)
def isNextM:Op→Bool
 | .next _ false=>true
 | _=>false
def wpOpB (P:Program) (g:G) (K:aH) (o:Oper) (f:EFr) (h:H) (k:EVal→H→Prop):Bool→Prop
 | true=>ajX P g K o f h k
 | false=>p9 P g K (ndOp P f.tmps o) h k (eOp P g h f.tmps o)
theorem wpOp_eq {o:Oper}{f:EFr}{h:H}{k:EVal→H→Prop}:ajX P g K o f h k=wpOpB P g K o f h k (isNextM o.op):=by
 unfold wpOpB
 split
 · rfl
 · rename_i hn
   unfold ajX
   split
   · rename_i heq;rw [heq]at hn;cases hn
   · rfl
theorem wpOpB_false {o:Oper}{f:EFr}{h:H}{k:EVal→H→Prop}:wpOpB P g K o f h k false=p9 P g K (ndOp P f.tmps o) h k (eOp P g h f.tmps o):=(rfl)
theorem wpCond_true {a b:Code}{f:EFr}{h:H}{Q:dG}:wpCond A P g K a b f h Q (some (.bool true))=wp A P g K a f h Q:=(rfl)
theorem wpCond_false {a b:Code}{f:EFr}{h:H}{Q:dG}:wpCond A P g K a b f h Q (some (.bool false))=wp A P g K b f h Q:=(rfl)
end
section
variable {A:Option Nat}{P:Program}{f:EFr}{h:H}
theorem eI {l:List (Nat×EVal)}{i:Nat}{v:EVal}(h:(T.ofL l).get i=some v):(i,v)∈l:=by
 induction l with
 | nil=>cases T.get_full _ _ _ h
 | cons p l ih=>
   obtain⟨j,u⟩:=p
   rcases T.get_set _ _ _ _ h with⟨rfl,e⟩ | ⟨_,e⟩
   · cases e;exact List.mem_cons_self
   · exact List.mem_cons_of_mem _ (ih e)
theorem View.slots {n:Nat}{l:List (Nat×EVal)}(hn:f.sz=n) (hd:f.defers=[]) (hr:f.round=none)
  (hv:∀p∈l,f.tmps.get p.1=some p.2):View A P f h (mkF n l) h:=fun B0 W0 b t d ρ w F R=>by
 refine⟨ρ,Loc.leA_refl,⟨by rw [F.size,hn];rfl,fun i e he=>F.tmps i e (hv _ (eI he)),?_,?_⟩,R⟩
 · have:=F.defers;rw [hd]at this;exact this
 · have:=F.round;rw [hr]at this;exact this
theorem View.sub {n:Nat}{l l2:List (Nat×EVal)}(hv:∀p∈l2,p.1<1000∧look l p.1=some p.2):View A P (mkF n l) h (mkF n l2) h:=
 View.slots rfl rfl rfl fun p hp=>by
  obtain⟨h1,h2⟩:=hv p hp
  show(T.ofL l).get p.1=_
  rw [T.get_ofL _ _ h1];exact h2
def lC:Nat→List EVal→List (Nat×EVal)
 | _,[]=>[]
 | i,v::l=>(i,v)::lC (i+1) l
theorem s3:∀(l:List EVal) (i:Nat) (t:T EVal),(∀j,j<1000→t.has j)→i+l.length<1000→(∀p∈lC i l,(qT l i t).get p.1=some p.2)∧(∀j,j<i→(qT l i t).get j=t.get j)
 | [],_,_,_,_=>⟨fun p hp=>(by cases hp),fun _ _=>rfl⟩
 | v :: l,i,t,ht,hl=>by
   have ht':∀j,j<1000→(t.set i (some v)).has j:=fun j hj=>(T.has_set _ _ _ _).2 (ht j hj)
   simp only [List.length_cons]at hl
   obtain⟨h1,h2⟩:=s3 l (i+1) (t.set i (some v)) ht' (by omega)
   refine⟨fun p hp=>?_,fun j hj=>?_⟩
   · rcases List.mem_cons.1 hp with rfl|hp
     · show (qT l (i+1) (t.set i (some v))).get i=some v
       rw [h2 i (by omega)];exact T.get_set_same _ _ _ (ht i (by omega))
     · exact h1 p hp
   · show (qT l (i+1) (t.set i (some v))).get j=_
     rw [h2 j (by omega),T.get_set_ne _ _ _ _ (by omega)]
theorem View.start {fn:Func}{args:List EVal}{n:Nat}(hn:Nat.max fn.ntmps args.length=n) (hl:args.length<1000):View A P (m5 fn args) h (mkF n (lC 0 args)) h:=
 View.slots hn rfl rfl fun p hp=>(s3 args 0 _ (fun j hj=>T.has_full _ _ _ (by omega)) (by omega)).1 p hp
end
theorem ends_mk {P:Program}{g:G}{fn:Func}{v:EVal}{n:Nat}{l:List (Nat×EVal)}{h:H}{e:oZ}(he:e=.ret∨e=.normal) (hr:∃es,resultsE P g h (T.ofL l) fn.results.toList=some es∧keepV (one es)=some v):Ends P g fn v e (mkF n l) h:=by
 obtain⟨es,h1,h2⟩:=hr
 refine⟨by rcases he with rfl|rfl<;>trivial,h,es,rfl,h1,h2⟩
theorem ends_of {P:Program}{g:G}{fn:Func}{v:EVal}{n:Nat}{l:List (Nat×EVal)}{h:H}{e:oZ}(he:e=.ret∨e=.normal) (hr:(resultsE P g h (T.ofL l) fn.results.toList).bind (fun es=>keepV (one es))=some v):Ends P g fn v e (mkF n l) h:=by
 cases hq:resultsE P g h (T.ofL l) fn.results.toList with
 | none=>rw [hq]at hr;cases hr
 | some es=>exact ends_mk he ⟨es,hq,by rw [hq]at hr;exact hr⟩
theorem eY {P:Program}{g:G}{K:aH}{all:Array Oper}{Q:EFr→H→Prop}{o:Oper}{rest:List Oper}{f:EFr}{h:H}{q:Bool}(h1:q=false→iO P g K all Q o rest f h (some true)) (h2:q=true→iO P g K all Q o rest f h (some false)) :
  iO P g K all Q o rest f h (some !q):=by
 cases q with
 | true=>exact h2 rfl
 | false=>exact h1 rfl
theorem e6 {A:Option Nat}{P:Program}{g:G}{K:aH}{a b:Code}{f:EFr}{h:H}{Q:dG}{q:Bool}(h1:q=false→wp A P g K a f h Q) (h2:q=true→wp A P g K b f h Q):wpCond A P g K a b f h Q (some (.bool !q)):=by
 cases q with
 | true=>exact h2 rfl
 | false=>exact h1 rfl
theorem cV {P:Program}{e:TypeId}{sz bytes need:Nat}{z:List EVal}(hz:bJ P e=some z) (h1:z.length=sz) (h2:1≤bytes):aI P e sz bytes need=decide (bytes*need≤1000000):=by
 unfold aI
 rw [hz]
 simp only
 rw [Bool.eq_iff_iff]
 simp [h1,h2]
theorem ev_tmp {t:T EVal}{i:Nat}:ev t (.tmp i)=t.get i:=(rfl)
theorem ev_int {t:T EVal}{k:IntKind}{n:Int}:ev t (.const (.int k n))=some (.int k n):=(rfl)
theorem ev_bool {t:T EVal}{b:Bool}:ev t (.const (.bool b))=some (.bool b):=(rfl)
theorem ev_str {t:T EVal}{s:ByteArray}:ev t (.const (.string s))=some (.str (s.data.toList.map UInt8.toNat)):=(rfl)
theorem ev_nils {t:T EVal}:ev t (.const (.slice none 0 0))=some .nilslice:=(rfl)
theorem ev_nilp {t:T EVal}:ev t (.const (.pointer none))=some .nilp:=(rfl)
theorem ev_nilm {t:T EVal}:ev t (.const (.map none))=some .nilmap:=(rfl)
theorem ev_nilf {t:T EVal}:ev t (.const .nilFunc)=some .nilfunc:=(rfl)
theorem ev_func {t:T EVal}{f:FuncId}:ev t (.func f)=some (.func f []):=(rfl)
theorem ev_glob {t:T EVal}{i:Nat}:ev t (.global i)=some (.gptr i 0):=(rfl)
theorem ev_agg {t:T EVal}{cs:Array Value}:ev t (.const (.agg cs))=(absCells absCell cs.toList).map .agg:=by
 show(match absCells absCell cs.toList with|some l=>some (EVal.agg l)|none=>none)=_
 cases absCells absCell cs.toList<;>rfl
theorem some_beq (a b:Bool):(some a==some b)=(a==b):=by cases a<;>cases b<;>rfl
theorem bne_not {α:Type} [BEq α] (a b:α):(a != b)=!(a==b):=rfl
theorem none_beq (b:Bool):((none:Option Bool)==some b)=false:=by cases b<;>rfl
theorem beq_t (a:Bool):(a==true)=a:=by cases a<;>rfl
theorem beq_f (a:Bool):(a==false)=!a:=by cases a<;>rfl
theorem wpNext_q {P:Program}{g:G}{K:aH}{all:Array Oper}{Q:EFr→H→Prop}{dst:Option Tmp}{rest:List Oper}{f:EFr}{v:EVal}{h:H}:zG P g K all Q dst rest f v h=jD P g K all Q rest (f.putd dst v) h:=(rfl)
end Go.Ev
namespace Go.Ev
open Go.RowKit
section
variable {α:Type}
noncomputable def T.ofG (n:Nat) (l:List (Nat×Option α)):T α:=l.foldr (fun p t=>t.set p.1 p.2) (T.full none n)
def lookG:List (Nat×Option α)→Nat→Option α
 | [],_=>none
 | (j,v)::l,i=>if j=i then v else lookG l i
theorem T.has_ofG (n:Nat) (l:List (Nat×Option α)) (i:Nat) (h:i+1<2 ^ n):(T.ofG n l).has i:=by
 induction l with
 | nil=>exact T.has_full _ _ _ h
 | cons p l ih=>exact(T.has_set _ _ _ _).2 ih
theorem T.get_ofG (n:Nat) (l:List (Nat×Option α)) (i:Nat) (h:i+1<2 ^ n):(T.ofG n l).get i=lookG l i:=by
 induction l with
 | nil=>
   cases hq:(T.full (none:Option α) n).get i with
   | none=>exact hq
   | some e=>cases T.get_full _ _ _ hq
 | cons p l ih=>
   obtain⟨j,v⟩:=p
   show(T.set (T.ofG n l) j v).get i=lookG ((j,v)::l) i
   unfold lookG
   split
   · rename_i e;subst e;exact T.get_set_same _ _ _ (T.has_ofG n l _ h)
   · rename_i e;rw [T.get_set_ne _ _ _ _ (Ne.symm e)];exact ih
theorem T.ofG_mem {n:Nat}{l:List (Nat×Option α)}{i:Nat}{v:α}(h:(T.ofG n l).get i=some v):(i,some v)∈l:=by
 induction l with
 | nil=>cases T.get_full _ _ _ h
 | cons p l ih=>
   obtain⟨j,u⟩:=p
   rcases T.get_set _ _ _ _ h with⟨rfl,e⟩ | ⟨_,e⟩
   · rw [←e];exact List.mem_cons_self
   · exact List.mem_cons_of_mem _ (ih e)
end
noncomputable def mkH (n:Nat) (l:List (Nat×Option bR)) (m:Nat) (k:List (Nat×Option (Nat×TypeId))):H:=⟨n,T.ofG 14 l,m,T.ofG 8 k⟩
theorem H.start_mk:H.start=mkH 0 [] 0 []:=rfl
section
variable {n m:Nat}{l:List (Nat×Option bR)}{k:List (Nat×Option (Nat×TypeId))}
theorem mkH_new {o:bR}:(mkH n l m k).new o=mkH (n+1) ((n,some o)::l) m k:=rfl
theorem mkH_put {id:Nat}{o:bR}:(mkH n l m k).put id o=mkH n ((id,some o)::l) m k:=rfl
theorem mkH_kill {id:Nat}:(mkH n l m k).kill id=mkH n ((id,none)::l) m k:=rfl
theorem mkH_tok {id q:Nat}{e:TypeId}:(mkH n l m k).tok id q e=mkH n l m ((id,some (q,e))::k):=rfl
theorem mkH_get {id:Nat}(h:id<16000):(mkH n l m k).get id=lookG l id:=T.get_ofG 14 l id (by omega)
theorem mkH_k {id:Nat}(h:id<250):(mkH n l m k).k.get id=lookG k id:=T.get_ofG 8 k id (by omega)
theorem mkH_n:(mkH n l m k).n=n:=rfl
end
mutual
def below (N:Nat):EVal→Bool
 | .ptr id _=>Nat.blt id N
 | .slice id _ _ _=>Nat.blt id N
 | .map id=>Nat.blt id N
 | .yieldf id=>Nat.blt id N
 | .func _ cs=>bI N cs
 | .bound _ cs=>bI N cs
 | .iface _ v=>below N v
 | .agg l=>bI N l
 | .tup l=>bI N l
 | _=>true
def bI (N:Nat):List EVal→Bool
 | []=>true
 | v::l=>below N v&&bI N l
end
def belowO (N:Nat):bR→Bool
 | .row cells _ _ _ _=>bI N cells
 | .map es _=>es.all fun e=>below N e.1&&below N e.2.1
 | .iter _ _=>true
 | .miter m _ _ _=>Nat.blt m N
 | .deferred _=>true
 | _=>false
def okO (N:Nat) (o:bR):Prop:=belowO N o=true∨∃st pend n t ps a b d,o=.loop st pend n t ps a b d∧∀i e,t.get i=some e→below N e=true
theorem wJ {N n d:Nat}{st:LoopState}{pend:Option Code}{l:List (Nat×EVal)}{ps:List Tmp}{a b:Code}(h:∀p∈l,below N p.2=true):okO N (.loop st pend n (T.ofL l) ps a b d):=
 .inr ⟨_,_,_,_,_,_,_,_,rfl,fun i e he=>h _ (eI he)⟩
noncomputable def mkD (n:Nat) (l:List (Nat×EVal)) (ds:List Nat) (r:Option Nat):EFr:=⟨n,T.ofL l,ds,r⟩
def Loc.cut (ρ:Loc) (N:Nat):Loc:={ ρ with own:=fun id=>if id<N then ρ id else none }
theorem f9 {ρ:Loc}{N id:Nat}{x:Nat×Nat}(hb:Nat.blt id N=true) (h:ρ id=some x):(ρ.cut N) id=some x:=by
 show(if id<N then ρ id else none)=some x
 rw [if_pos (by simpa using hb)];exact h
mutual
theorem VRel.cut {ρ:Loc}{N:Nat}:∀ {e:EVal}{v:Value},VRel ρ e v→below N e=true→VRel (ρ.cut N) e v
 | _,_,.unk k n,_=>.unk k n
 | _,_,.bool b,_=>.bool b
 | _,_,.int k n,_=>.int k n
 | _,_,.str l s h,_=>.str l s h
 | _,_,.nilp,_=>.nilp
 | _,_,.gptr g o,_=>.gptr g o
 | _,_,.ptr id o b C h,hb=>.ptr id o b C (f9 hb h)
 | _,_,.nilslice,_=>.nilslice
 | _,_,.slice id o n c b C h,hb=>.slice id o n c b C (f9 hb h)
 | _,_,.slack id o n s c b C h hc hn,hb=>.slack id o n s c b C (f9 hb h) hc hn
 | _,_,.nilmap,_=>.nilmap
 | _,_,.map id b C h,hb=>.map id b C (f9 hb h)
 | _,_,.func f cs vs h,hb=>.func f cs vs (VsRel.cut h hb)
 | _,_,.bound f cs vs h,hb=>.bound f cs vs (VsRel.cut h hb)
 | _,_,.yieldf id b C h,hb=>.yieldf id b C (f9 hb h)
 | _,_,.nilfunc,_=>.nilfunc
 | _,_,.iface t e v h,hb=>.iface t e v (VRel.cut h hb)
 | _,_,.nilif,_=>.nilif
 | _,_,.zsl p,_=>.zsl p
 | _,_,.zslt p id,_=>.zslt p id
 | _,_,.agg l cs h,hb=>.agg l cs (VsRel.cut h hb)
 | _,_,.tup l cs h,hb=>.tup l cs (VsRel.cut h hb)
 | _,_,.lsl els us b o c sz pre rest hf hs hw ho hz hc,_=>.lsl els us b o c sz pre rest hf hs hw ho hz hc
 | _,_,.lsl0 p c,_=>.lsl0 p c
 | _,_,.lsln,_=>.lsln
 | _,_,.lptr cells off us b base pre rest hf hs hw ho,_=>.lptr cells off us b base pre rest hf hs hw ho
 | _,_,.gnil o id ht,_=>.gnil o id ht
 | _,_,.gsl id els us b C sz pre rest ht hf hs hw hz hc,_=>.gsl id els us b C sz pre rest ht hf hs hw hz hc
theorem VsRel.cut {ρ:Loc}{N:Nat}:∀ {es:List EVal}{vs:List Value},VsRel ρ es vs→bI N es=true→VsRel (ρ.cut N) es vs
 | _,_,.nil,_=>.nil
 | _,_,.cons e v es vs h hs,hb=>by
   simp only [bI,Bool.and_eq_true]at hb
   exact .cons e v es vs (VRel.cut h hb.1) (VsRel.cut hs hb.2)
end
section
variable {P:Program}{B0:Nat}{W0:eF}
theorem zX {ρ ρ':Loc}{x:Option Nat}(h:mX ρ none x):mX ρ' none x:=by
 cases x with
 | none=>trivial
 | some l=>exact h.elim
theorem MRel.cut {ρ:Loc}{N:Nat}{es:List (EVal×EVal×Nat)}{ms:List MapEntry}(hb:(es.all fun e=>Go.Ev.below N e.1&&Go.Ev.below N e.2.1)=true) (h:MRel ρ es ms):MRel (ρ.cut N) es ms:=by
 induction h with
 | nil=>exact .nil
 | cons k v t es m ms hk hv hbn h ih=>
   simp only [List.all_cons,Bool.and_eq_true]at hb
   exact .cons k v t es m ms (hk.cut hb.1.1) (hv.cut hb.1.2) hbn (ih hb.2)
theorem ORel.cut {ρ:Loc}{N:Nat}{o:bR}{C:Nat}{x:Option Obj}(hb:belowO N o=true) (h:ORel P ρ o C x):ORel P (ρ.cut N) o C x:=by
 cases o with
 | row cells e lo hi sl=>obtain⟨cs,h1,h2,h3,h4⟩:=h;exact⟨cs,h1,h2.cut hb,h3,h4⟩
 | map es clock=>obtain⟨m,h1,h2⟩:=h;exact⟨m,h1,h2.cut hb⟩
 | miter m since seen stepped=>obtain⟨b,C,h1,h2⟩:=h;exact⟨b,C,f9 hb h1,h2⟩
 | iter l pos=>exact h
 | loop st pend sz t ps a b d=>cases hb
 | deferred tk=>exact h
theorem ORel.cut' {ρ:Loc}{N:Nat}{o:bR}{C:Nat}{x:Option Obj}(hb:okO N o) (h:ORel P ρ o C x):ORel P (ρ.cut N) o C x:=by
 rcases hb with hb|⟨st,pend,n,t,ps,a,b,d,rfl,hb⟩
 · exact h.cut hb
 · obtain⟨L,h1,h2,h3,h4,h5,h6⟩:=h;exact⟨L,h1,h2,h3,h4,fun i e he=>(h5 i e he).cut (hb i e he),h6⟩
theorem DRel.cut {ρ:Loc}{N:Nat}{l:List Nat}{ds:List Deferred}(h:DRel ρ l ds) (hb:∀i∈l,i<N):DRel (ρ.cut N) l ds:=by
 induction h with
 | nil=>exact .nil
 | cons id b C l ds h hs ih=>exact .cons _ _ C _ _ (f9 (by simpa using hb id List.mem_cons_self) h) (ih fun i hi=>hb i (List.mem_cons_of_mem _ hi))
theorem View.dropD {A:Option Nat}{s n N m:Nat}{ds:List Nat}{r:Option Nat}{fl fl2:List (Nat×EVal)}{l l2:List (Nat×Option bR)}{k k2:List (Nat×Option (Nat×TypeId))}
  (hA:∀q,A=some q→q≤N) (hds:∀i∈ds,i<N) (hr:∀i,r=some i→i<N) (hf:∀p∈fl2,p.1<1000∧look fl p.1=some p.2∧below N p.2=true) (hl:∀p∈l2,p.1<16000∧p.1<N∧∃o,p.2=some o∧lookG l p.1=some o∧okO N o)
  (hk:∀p∈k2,p.1<250∧∃x,p.2=some x∧lookG k p.1=some x) :
  View A P (mkD s fl ds r) (mkH n l m k) (mkD s fl2 ds r) (mkH N l2 m k2):=by
 intro B0 W0 b t d ρ w F R
 have hkget:∀id x,(mkH N l2 m k2).k.get id=some x→(mkH n l m k).k.get id=some x:=by
  intro id x hg
  obtain⟨h1,x',h2,h3⟩:=hk _ (T.ofG_mem hg)
  simp only [Oi]at h2
  subst h2
  rw [mkH_k h1];exact h3
 have hget:∀id o,(mkH N l2 m k2).get id=some o→id<N∧(mkH n l m k).get id=some o∧okO N o:=by
  intro id o hg
  obtain⟨h1,h2,o',h3,h4,h5⟩:=hl _ (T.ofG_mem hg)
  simp only [Oi]at h3
  subst h3
  exact⟨h2,by rw [mkH_get h1];exact h4,h5⟩
 have hown:∀ {id x},(ρ.cut N) id=some x→ρ id=some x:=by
  intro id x hx
  have:(if id<N then ρ id else none)=some x:=hx
  split at this
  · exact this
  · cases this
 refine⟨ρ.cut N,fun q hq=>⟨fun id x hid hx=>?_,fun b pre hb=>⟨[],by rw [List.append_nil];exact hb⟩,fun _ _ _ h=>h⟩,⟨F.size,fun i e he=>?_,F.defers.cut hds,?_⟩,?_⟩
 · show (if id<N then ρ id else none)=_
   rw [if_pos (by have:=hA q hq;omega)];exact hx
 · obtain ⟨h1,h2,h3⟩:=hf _ (eI he)
   exact(F.tmps i e (by show(T.ofL fl).get i=_;rw [T.get_ofL _ _ h1];exact h2)).cut h3
 · have:=F.round
   cases r with
   | none=>exact zX this
   | some i=>
     generalize b.roundOf=x at this ⊢
     cases x with
     | none=>exact this.elim
     | some l=>obtain⟨C,hC⟩:=this;exact⟨C,f9 (by simpa using hr i rfl) hC⟩
 · refine ⟨R.below,R.base,fun id hid=>?_,fun id b' C hb'=>R.lo id b' C (hown hb'),fun i j o1 o2 b' C C' g1 g2 r1 r2=>R.inj i j o1 o2 b' C C' (hget _ _ g1).2.1 (hget _ _ g2).2.1 (hown r1) (hown r2),fun id o hg=>?_,R.fz,
    fun b' pre hb' id C o hg hr=>R.free b' pre hb' id C o (hget _ _ hg).2.1 (hown hr),R.fz0,R.mdom,fun id q e hk=>?_,fun id q e hk=>R.tnew id q e (hkget _ _ hk),fun i1 n1 e1 i2 n2 e2 b1 C1 C2 h1 h2=>R.tinj i1 n1 e1 i2 n2 e2 b1 C1 C2 (hkget _ _ h1) (hkget _ _ h2)⟩
   · have hid:N≤id:=hid
     show(if id<N then ρ id else none)=none
     rw [if_neg (by omega)]
   · obtain ⟨h1,h2,h3⟩:=hget _ _ hg
     obtain⟨b',C,hb',r⟩:=R.objs _ _ h2
     exact⟨b',C,f9 (by simpa using h1) hb',r.cut' h3⟩
   · obtain ⟨x,h1,h2⟩:=R.toks id q e (hkget _ _ hk)
     exact⟨x,h1,fun b' C hx=>(h2 b' C hx).keep rfl rfl⟩
theorem View.drop {A:Option Nat}{s n N m:Nat}{fl fl2:List (Nat×EVal)}{l l2:List (Nat×Option bR)}{k k2:List (Nat×Option (Nat×TypeId))}
  (hf:∀p∈fl2,p.1<1000∧look fl p.1=some p.2∧below N p.2=true) (hl:∀p∈l2,p.1<16000∧p.1<N∧∃o,p.2=some o∧lookG l p.1=some o∧belowO N o=true)
  (hk:∀p∈k2,p.1<250∧∃x,p.2=some x∧lookG k p.1=some x) (hA:∀q,A=some q→q≤N:=by first|(intro _ h;cases h;done)|(intro q h;cases h;omega)) :
  View A P (mkF s fl) (mkH n l m k) (mkF s fl2) (mkH N l2 m k2):=
 View.dropD (ds:=[]) (r:=none) hA (fun _ h=>by cases h) (fun _ h=>by cases h) hf (fun p hp=>by obtain⟨h1,h2,o,h3,h4,h5⟩:=hl p hp;exact⟨h1,h2,o,h3,h4,.inl h5⟩) hk
theorem View.mode0 {A:Option Nat}{f:EFr}{n m:Nat}{l:List (Nat×Option bR)}{k:List (Nat×Option (Nat×TypeId))}(m':Nat) (hm:m % 1099511627776≤m' % 1099511627776):View A P f (mkH n l m k) f (mkH n l m' k):=fun B0 W0 b t d ρ w F R=>
 ⟨ρ,Loc.leA_refl,F,R.below,R.base,R.dom,R.lo,R.inj,R.objs,R.fz,R.free,R.fz0,fun id q hid=>R.mdom id q (Nat.le_trans hm hid),R.toks,R.tnew,R.tinj⟩
theorem View.spare {A:Option Nat}{n m:Nat}{f:EFr}{l:List (Nat×Option bR)}{k:List (Nat×Option (Nat×TypeId))}(e:TypeId) (hm:m % 1099511627776<250) :
  View A P f (mkH n l m k) f (mkH n l (m % 1099511627776+1+1099511627776) ((m % 1099511627776,some (0,e))::k)):=by
 intro B0 W0 b t d ρ w F R
 have hm1:∀id q,m % 1099511627776≤id→ρ.tau id q=none:=R.mdom
 generalize m % 1099511627776=j at hm hm1 ⊢
 have hm0:∀q,ρ.tau j q=none:=fun q=>hm1 j q (Nat.le_refl _)
 let ρ2:Loc:={ ρ with tau:=fun id q=>if id=j then(if q=0 then some none else none)else ρ.tau id q }
 have hle:ρ.le ρ2:=⟨fun _ _ h=>h,fun b pre h=>⟨[],by simpa using h⟩,fun id q x hx=>by
  show(if id=j then(if q=0 then some none else none)else ρ.tau id q)=some x
  rw [if_neg];exact hx
  rintro rfl;rw [hm0]at hx;cases hx⟩
 have htau:∀id q,ρ2.tau id q=if id=j then(if q=0 then some none else none)else ρ.tau id q:=fun _ _=>rfl
 have hget:∀id q e',(mkH n l (j+1+1099511627776) ((j,some (0,e))::k)).k.get id=some (q,e')→(id=j∧q=0∧e'=e)∨(id≠j∧(mkH n l m k).k.get id=some (q,e')):=by
  intro id q e' hg
  rcases T.get_set _ _ _ _ hg with⟨a,b⟩ | ⟨a,b⟩
  · cases b;exact .inl ⟨a,rfl,rfl⟩
  · exact .inr ⟨a,b⟩
 refine⟨ρ2,Loc.leA_of hle,FRel.mono hle F,?_⟩
 refine⟨R.below,R.base,R.dom,R.lo,R.inj,fun id o hg=>?_,R.fz,R.free,R.fz0,fun id q hid=>?_,fun id q e' hk=>?_,fun id q e' hk q' hq=>?_,fun i1 n1 e1 i2 n2 e2 b1 C1 C2 h1 h2 t1 t2=>?_⟩
 · obtain ⟨b',C,hb',r⟩:=R.objs _ _ hg
   exact⟨b',C,hb',r.mono hle⟩
 · have hid:(j+1+1099511627776) % 1099511627776≤id:=hid
   rw [htau,if_neg (by omega)]
   exact hm1 id q (by omega)
 · rcases hget _ _ _ hk with⟨rfl,rfl,rfl⟩ | ⟨hne,hk⟩
   · exact⟨none,by rw [htau];simp,fun _ _ hx=>by cases hx⟩
   · obtain ⟨x,h1,h2⟩:=R.toks id q e' hk
     exact⟨x,by rw [htau,if_neg hne];exact h1,fun b' C hx=>(h2 b' C hx).keep rfl rfl⟩
 · rcases hget _ _ _ hk with⟨rfl,rfl,rfl⟩ | ⟨hne,hk⟩
   · rw [htau,if_pos rfl,if_neg (by omega)]
   · rw [htau,if_neg hne];exact R.tnew _ _ _ hk _ hq
 · rcases hget _ _ _ h1 with⟨rfl,rfl,rfl⟩ | ⟨hne1,g1⟩
   · rw [htau]at t1;simp at t1
   · rcases hget _ _ _ h2 with⟨rfl,rfl,rfl⟩ | ⟨hne2,g2⟩
     · rw [htau]at t2;simp at t2
     · rw [htau,if_neg hne1]at t1
       rw [htau,if_neg hne2]at t2
       exact R.tinj _ _ _ _ _ _ _ _ _ g1 g2 t1 t2
theorem View.growD {A:Option Nat}{s n m:Nat}{ds:List Nat}{r:Option Nat}{fl:List (Nat×EVal)}{l:List (Nat×Option bR)}{k:List (Nat×Option (Nat×TypeId))}(i:Nat) (e:TypeId) (hi:i<1000) (hm:m<250) (h:look fl i=some .nilslice) :
  View A P (mkD s fl ds r) (mkH n l m k) (mkD s ((i,.gsl m [])::fl) ds r) (mkH n l (m+1) ((m,some (0,e))::k)):=by
 intro B0 W0 b t d ρ w F R
 have hm0:∀q,ρ.tau m q=none:=fun q=>R.mdom m q (by show m % 1099511627776≤m;omega)
 let ρ2:Loc:={ ρ with tau:=fun id q=>if id=m then(if q=0 then some none else none)else ρ.tau id q }
 have hle:ρ.le ρ2:=⟨fun _ _ h=>h,fun b pre h=>⟨[],by simpa using h⟩,fun id q x hx=>by
  show(if id=m then(if q=0 then some none else none)else ρ.tau id q)=some x
  rw [if_neg];exact hx
  rintro rfl;rw [hm0]at hx;cases hx⟩
 have htau:∀id q,ρ2.tau id q=if id=m then(if q=0 then some none else none)else ρ.tau id q:=fun _ _=>rfl
 have hget:∀id q e',(mkH n l (m+1) ((m,some (0,e))::k)).k.get id=some (q,e')→(id=m∧q=0∧e'=e)∨(id≠m∧(mkH n l m k).k.get id=some (q,e')):=by
  intro id q e' hg
  rcases T.get_set _ _ _ _ hg with⟨a,b⟩ | ⟨a,b⟩
  · cases b;exact .inl ⟨a,rfl,rfl⟩
  · exact .inr ⟨a,b⟩
 refine⟨ρ2,Loc.leA_of hle,⟨F.size,fun j v hv=>?_,F.defers.mono hle,(FRel.mono hle F).round⟩,?_⟩
 · rcases T.get_set _ _ _ _ hv with⟨rfl,hv⟩ | ⟨_,hv⟩
   · cases hv
     have:=F.tmps j _ (by show(T.ofL fl).get j=_;rw [T.get_ofL _ _ hi];exact h)
     generalize t.getD j undef=u at this
     cases this
     exact .gnil none m (by rw [htau];simp)
   · exact(F.tmps j v hv).mono hle
 · refine ⟨R.below,R.base,R.dom,R.lo,R.inj,fun id o hg=>?_,R.fz,R.free,R.fz0,fun id q hid=>?_,fun id q e' hk=>?_,fun id q e' hk q' hq=>?_,fun i1 n1 e1 i2 n2 e2 b1 C1 C2 h1 h2 t1 t2=>?_⟩
   · obtain ⟨b',C,hb',r⟩:=R.objs _ _ hg
     exact⟨b',C,hb',r.mono hle⟩
   · have hid:(m+1) % 1099511627776≤id:=hid
     rw [htau,if_neg (by omega)]
     exact R.mdom id q (by show m % 1099511627776≤id;omega)
   · rcases hget _ _ _ hk with⟨rfl,rfl,rfl⟩ | ⟨hne,hk⟩
     · exact⟨none,by rw [htau];simp,fun _ _ hx=>by cases hx⟩
     · obtain ⟨x,h1,h2⟩:=R.toks id q e' hk
       exact⟨x,by rw [htau,if_neg hne];exact h1,fun b' C hx=>(h2 b' C hx).keep rfl rfl⟩
   · rcases hget _ _ _ hk with⟨rfl,rfl,rfl⟩ | ⟨hne,hk⟩
     · rw [htau,if_pos rfl,if_neg (by omega)]
     · rw [htau,if_neg hne];exact R.tnew _ _ _ hk _ hq
   · rcases hget _ _ _ h1 with⟨rfl,rfl,rfl⟩ | ⟨hne1,g1⟩
     · rw [htau]at t1;simp at t1
     · rcases hget _ _ _ h2 with⟨rfl,rfl,rfl⟩ | ⟨hne2,g2⟩
       · rw [htau]at t2;simp at t2
       · rw [htau,if_neg hne1]at t1
         rw [htau,if_neg hne2]at t2
         exact R.tinj _ _ _ _ _ _ _ _ _ g1 g2 t1 t2
theorem View.keepD {A:Option Nat}{s:Nat}{ds:List Nat}{r:Option Nat}{fl:List (Nat×EVal)}{h:H}{m:Nat}{els:List (List EVal)}(i:Nat) (hi:i<1000) (hl:look fl i=some (.gsl m els)) :
  View A P (mkD s fl ds r) h (mkD s ((i,.lsl els)::fl) ds r) h:=by
 intro B0 W0 b t d ρ w F R
 refine⟨ρ,Loc.leA_refl,⟨F.size,fun j v hv=>?_,F.defers,F.round⟩,R⟩
 rcases T.get_set _ _ _ _ hv with⟨rfl,hv⟩ | ⟨_,hv⟩
 · cases hv
   exact(F.tmps j _ (by show(T.ofL fl).get j=_;rw [T.get_ofL _ _ hi];exact hl)).unG
 · exact F.tmps j v hv
theorem View.keep {A:Option Nat}{s:Nat}{fl:List (Nat×EVal)}{h:H}{m:Nat}{els:List (List EVal)}(i:Nat) (hi:i<1000) (hl:look fl i=some (.gsl m els)) :
  View A P (mkF s fl) h (mkF s ((i,.lsl els)::fl)) h:=View.keepD (ds:=[]) (r:=none) i hi hl
end
end Go.Ev
namespace Go.Ev
open Go.RowKit
end Go.Ev
namespace Go.Ev
open Go.RowKit
end Go.Ev
