import Derived.Test.YtkhmgggponmimaaGreatDoorEvD
import Derived.OpenShut
import Derived.Deep.Slices
import Derived.WalkKit
import Derived.ProofKit
import Derived.Deep.DeepHandedRow
import Derived.Lib.LaidTab
import Derived.Lib.SmallJoins
import Derived.ChangeMaps5
set_option linter.unusedSimpArgs false
set_option linter.unusedVariables false
namespace Go.Ev
open Go.RowKit
noncomputable section
structure Cod (α:Type) where
 v:α→V
 ok:V→Bool
 dec:V→α
 e:EVal→Option α
 rt:∀x,e (v x).c=some x
 inv:∀w x,e w=some x→w=(v x).c
 dok:∀u,ok u=true→u.c=(v (dec u)).c
 safe:∀x,(v x).safe=true
 okv:∀x,ok (v x)=true
 dv:∀x,dec (v x)=x
 sp:{R:Type}→α→(V→Option R)→Option R:=fun x k=>k (v x)
 spk:∀ {R:Type} (x:α) (k:V→Option R) (r:R),sp x k=some r→k (v x)=some r:=by intro _ x k r h;exact h
 kb:Bool:=false
 kp:kb=true→∀x,(v x).kept=true:=by intro h;cases h
structure Row (α:Type) where
 v:α→List V
 ok:List V→Bool
 dec:List V→α
 e:List EVal→Option α
 rt:∀x,e (V.cs (v x))=some x
 inv:∀w x,e w=some x→w=V.cs (v x)
 dok:∀u,ok u=true→V.cs u=V.cs (v (dec u))
 safe:∀x,i7 (v x)=true
 okv:∀x,ok (v x)=true
 dv:∀x,dec (v x)=x
 sp:{R:Type}→α→(List V→Option R)→Option R:=fun x k=>k (v x)
 spk:∀ {R:Type} (x:α) (k:List V→Option R) (r:R),sp x k=some r→k (v x)=some r:=by intro _ x k r h;exact h
 w:Nat
 len:∀x,(v x).length=w
 kb:Bool
 kp:kb=true→∀x,keptB (v x)=true
def oG {α R:Type}(o:Option α) (a:Option R) (b:α→Option R):Option R:=match o with
 | none=>a
 | some x=>b x
def azO (k:IntKind):Cod Int where
 v n:=.int k n
 ok
  | .int j _=>decide (j=k)
  | _=>false
 dec
  | .int _ n=>n
  | _=>0
 e
  | .int j n=>if j=k then some n else none
  | _=>none
 rt x:=by simp only [V.c,if_true]
 inv w x h:=by
  split at h
  · split at h
    · rename_i hj;cases h;subst hj;simp only [V.c]
    · cases h
  · cases h
 dok u h:=by
  split at h
  · rename_i j n;simp only [decide_eq_true_eq]at h;subst h;simp only [V.c]
  · cases h
 safe _:=rfl
 okv _:=by simp
 dv _:=rfl
 kb:=true
 kp _ _:=rfl
abbrev cI:Cod Int:=azO .i64
abbrev cU8:Cod Int:=azO .u8
def cB:Cod Bool where
 v b:=.bool b
 ok
  | .bool _=>true
  | _=>false
 dec
  | .bool b=>b
  | _=>false
 e
  | .bool b=>some b
  | _=>none
 rt x:=by simp only [V.c]
 inv w x h:=by
  split at h
  · cases h;simp only [V.c]
  · cases h
 dok u h:=by
  split at h
  · simp only [V.c]
  · cases h
 safe _:=rfl
 okv _:=rfl
 dv _:=rfl
 kb:=true
 kp _ _:=rfl
def cS:Cod (List Nat) where
 v b:=.str b
 ok
  | .str _=>true
  | _=>false
 dec
  | .str b=>b
  | _=>[]
 e
  | .str b=>some b
  | _=>none
 rt x:=by simp only [V.c]
 inv w x h:=by
  split at h
  · cases h;simp only [V.c]
  · cases h
 dok u h:=by
  split at h
  · simp only [V.c]
  · cases h
 safe _:=rfl
 okv _:=rfl
 dv _:=rfl
 kb:=true
 kp _ _:=rfl
def Row.nil:Row Unit where
 v _:=[]
 ok
  | []=>true
  | _=>false
 dec _:=()
 e
  | []=>some ()
  | _=>none
 rt x:=by rw [V.cs]
 inv w x h:=by
  split at h
  · rw [V.cs]
  · cases h
 dok u h:=by
  split at h
  · rfl
  · cases h
 safe _:=rfl
 okv _:=rfl
 dv _:=rfl
 w:=0
 len _:=rfl
 kb:=true
 kp _ _:=rfl
def Row.cons {α β:Type}(A:Cod α) (B:Row β):Row (α×β) where
 v x:=A.v x.1::B.v x.2
 ok
  | a::l=>A.ok a&&B.ok l
  | []=>false
 dec
  | a::l=>(A.dec a,B.dec l)
  | []=>(A.dec (.raw .unk),B.dec [])
 e
  | a::l=>(A.e a).bind fun x=>(B.e l).map fun y=>(x,y)
  | []=>none
 rt x:=by
  rw [V.cs]
  simp only [A.rt,B.rt,Option.bind_some,Option.map_some]
 inv w x h:=by
  split at h
  · rename_i a l
    cases ha:A.e a with
    | none=>rw [ha]at h;cases h
    | some x1=>
      cases hl:B.e l with
      | none=>rw [ha,hl]at h;cases h
      | some x2=>
        rw [ha,hl]at h
        cases h
        rw [V.cs,A.inv _ _ ha,B.inv _ _ hl]
  · cases h
 dok u h:=by
  split at h
  · rename_i a l
    simp only [Bool.and_eq_true]at h
    simp only [V.cs]
    rw [A.dok _ h.1,B.dok _ h.2]
  · cases h
 safe x:=by simp only [i7,A.safe,B.safe,cond_true]
 okv x:=by simp only [A.okv,B.okv,Bool.and_self]
 dv x:=by simp only [A.dv,B.dv]
 sp x k:=A.sp x.1 fun a=>B.sp x.2 fun l=>k (a::l)
 spk x k r h:=B.spk _ _ _ (A.spk _ _ _ h)
 w:=B.w+1
 len x:=by simp only [List.length_cons,B.len]
 kb:=A.kb&&B.kb
 kp h x:=by
  rw [Bool.and_eq_true]at h
  simp only [keptB,A.kp h.1,cond_true,B.kp h.2]
def Row.iso {α β:Type}(A:Row α) (to:α→β) (of:β→α) (h1:∀y,to (of y)=y) (h2:∀x,of (to x)=x):Row β where
 v y:=A.v (of y)
 ok:=A.ok
 dec u:=to (A.dec u)
 e w:=(A.e w).map to
 rt y:=by rw [A.rt,Option.map_some,h1]
 inv w y h:=by
  cases ha:A.e w with
  | none=>rw [ha]at h;cases h
  | some x=>rw [ha]at h;cases h;rw [h2];exact A.inv _ _ ha
 dok u h:=by simp only [h2];exact A.dok u h
 safe y:=A.safe _
 okv y:=A.okv _
 dv y:=by simp only [A.dv,h1]
 w:=A.w
 len y:=A.len _
 kb:=A.kb
 kp h y:=A.kp h _
def Cod.agg {α:Type}(A:Row α):Cod α where
 v x:=.agg (A.v x)
 ok
  | .agg l=>A.ok l
  | _=>false
 dec
  | .agg l=>A.dec l
  | _=>A.dec []
 e
  | .agg l=>A.e l
  | _=>none
 rt x:=by rw [V.c];exact A.rt x
 inv w x h:=by
  split at h
  · rw [V.c,A.inv _ _ h]
  · cases h
 dok u h:=by
  split at h
  · simp only [V.c];rw [A.dok _ h]
  · cases h
 safe _:=rfl
 okv x:=A.okv x
 dv x:=A.dv x
def Cod.tup {α:Type}(A:Row α):Cod α where
 v x:=.tup (A.v x)
 ok
  | .tup l=>A.ok l
  | _=>false
 dec
  | .tup l=>A.dec l
  | _=>A.dec []
 e
  | .tup l=>A.e l
  | _=>none
 rt x:=by rw [V.c];exact A.rt x
 inv w x h:=by
  split at h
  · rw [V.c,A.inv _ _ h]
  · cases h
 dok u h:=by
  split at h
  · simp only [V.c];rw [A.dok _ h]
  · cases h
 safe _:=rfl
 okv x:=A.okv x
 dv x:=A.dv x
 sp x k:=A.sp x fun l=>k (.tup l)
 spk x k r h:=A.spk _ _ _ h
def Row.es {α:Type}(A:Row α):List (List EVal)→Option (List α)
 | []=>some []
 | w::l=>(A.e w).bind fun x=>(A.es l).map fun m=>x::m
theorem Row.es_rt {α:Type}(A:Row α):∀l:List α,A.es (l.map fun x=>V.cs (A.v x))=some l
 | []=>rfl
 | x::l=>by simp only [List.map_cons,Row.es,A.rt,Row.es_rt A l,Option.bind_some,Option.map_some]
theorem Row.es_inv {α:Type}(A:Row α):∀ {w:List (List EVal)}{l:List α},A.es w=some l→w=l.map fun x=>V.cs (A.v x)
 | [],l,h=>by simp only [Row.es,Oi]at h;subst h;rfl
 | w :: ws,l,h=>by
   simp only [Row.es]at h
   cases ha:A.e w with
   | none=>rw [ha]at h;cases h
   | some x=>
     cases hl:A.es ws with
     | none=>rw [ha,hl]at h;cases h
     | some m=>
       rw [ha,hl]at h
       cases h
       rw [List.map_cons,←A.inv _ _ ha,←Row.es_inv A hl]
theorem tM {α:Type}(d:α) (l:List α):((List.range l.length).map fun i=>l.getD i d)=l:=by
 apply List.ext_getElem
 · simp
 · intro i h1 h2
   simp only [List.getElem_map,List.getElem_range,List.getD_eq_getElem?_getD,List.getElem?_eq_getElem h2,Option.getD_some]
theorem cL {α β:Type}(d:α) (l:List α) (g:α→β):((List.range l.length).map fun i=>g (l.getD i d))=l.map g:=by
 conv=>rhs;rw [←tM d l]
 rw [List.map_map];rfl
theorem Row.okw {α:Type}(A:Row α) (hk:A.kb=true) (x:α):okW A.w (A.v x)=true:=by
 unfold okW;rw [A.len,Nat.beq_refl,A.kp hk];rfl
theorem Row.fixed {α:Type}(A:Row α) (hk:A.kb=true) (x:α):(bif okW A.w (A.v x)then V.cs (A.v x)else List.replicate A.w (.bool false))=V.cs (A.v x):=by rw [A.okw hk];rfl
def Cod.list {α:Type}(d:α) (A:Row α) (hk:A.kb=true:=by rfl):Cod (List α) where
 v l:=.fl A.w l.length fun i=>A.v (l.getD i d)
 ok
  | .fl w n f=>(List.range n).all fun i=>okW w (f i)&&A.ok (f i)
  | .el els=>els.all A.ok
  | _=>false
 dec
  | .fl _ n f=>(List.range n).map fun i=>A.dec (f i)
  | .el els=>els.map A.dec
  | _=>[]
 e
  | .lsl w=>A.es w
  | _=>none
 rt l:=by
  rw [V.c]
  simp only [A.fixed hk]
  show A.es _=_
  rw [cL d l fun x=>V.cs (A.v x)]
  exact A.es_rt l
 inv w l h:=by
  split at h
  · rw [V.c,A.es_inv h]
    simp only [A.fixed hk]
    rw [cL d l fun x=>V.cs (A.v x)]
  · cases h
 dok u h:=by
  split at h
  · rename_i w n f
    simp only [List.all_eq_true,List.mem_range,Bool.and_eq_true]at h
    simp only [V.c,A.fixed hk]
    rw [cL d _ fun x=>V.cs (A.v x),List.map_map]
    congr 1
    apply List.map_congr_left
    intro i hi
    rw [(h i (List.mem_range.1 hi)).1]
    exact A.dok _ (h i (List.mem_range.1 hi)).2
  · rename_i els
    simp only [List.all_eq_true]at h
    simp only [V.c,A.fixed hk]
    rw [cL d _ fun x=>V.cs (A.v x),List.map_map,V.css_map]
    congr 1
    apply List.map_congr_left
    intro c hc
    exact A.dok _ (h c hc)
  · cases h
 safe _:=rfl
 okv l:=by simp only [A.okv,A.okw hk,List.all_eq_true,Bool.and_self,implies_true]
 dv l:=by simp only [A.dv];exact tM d l
 kb:=true
 kp _ _:=rfl
def fnB (f:FuncId):V→Bool
 | .raw (.func g [])=>Nat.beq f g
 | _=>false
def fnsB:List FuncId→List (List V)→Bool
 | [],[]=>true
 | f::fs,[v]::vs=>fnB f v&&fnsB fs vs
 | _,_=>false
theorem fnB_c {f:FuncId}{v:V}(h:fnB f v=true):v.c=.func f []:=by
 unfold fnB at h
 split at h
 · rw [←Nat.eq_of_beq_eq_true h,V.c]
 · cases h
theorem yG:∀ {fs:List FuncId}{vs:List (List V)},fnsB fs vs=true→V.css vs=fs.map fun f=>[.func f []]
 | [],[],_=>by rw [V.css];rfl
 | f::fs,[v]::vs,h=>by
   simp only [fnsB,Bool.and_eq_true]at h
   rw [V.css,V.cs,V.cs,fnB_c h.1,yG h.2];rfl
 | [],_::_,h=>by cases h
 | _::_,[],h=>by cases h
 | _::_,[]::_,h=>by cases h
 | _::_,(_::_::_)::_,h=>by cases h
theorem ajf (fs:List FuncId):fnsB fs (fs.map fun f=>[V.raw (.func f [])])=true:=by
 induction fs with
 | nil=>rfl
 | cons f fs ih=>simp only [List.map_cons,fnsB,ih,fnB,Nat.beq_refl,Bool.and_self]
def eFns:List FuncId→List (List EVal)→Bool
 | [],[]=>true
 | f::fs,[.func g []]::vs=>Nat.beq f g&&eFns fs vs
 | _,_=>false
theorem akD:∀ {fs:List FuncId}{vs:List (List EVal)},eFns fs vs=true→vs=fs.map fun f=>[.func f []]
 | [],[],_=>rfl
 | f::fs,[.func g []]::vs,h=>by
   simp only [eFns,Bool.and_eq_true]at h
   rw [List.map_cons,←akD h.2,Nat.eq_of_beq_eq_true h.1]
 | [],_::_,h=>by cases h
 | _::_,[],h=>by cases h
 | f :: fs,x::vs,h=>by
   unfold eFns at h
   split at h
   · rename_i heq;cases heq
   · rename_i f' fs' g vs' h1 h2
     cases h1;cases h2
     simp only [Bool.and_eq_true]at h
     rw [List.map_cons,←akD h.2,Nat.eq_of_beq_eq_true h.1]
   · cases h
theorem eFns_v (fs:List FuncId):eFns fs (fs.map fun f=>[EVal.func f []])=true:=by
 induction fs with
 | nil=>rfl
 | cons f fs ih=>simp only [List.map_cons,eFns,ih,Nat.beq_refl,Bool.and_self]
def cFns (fs:List FuncId):Cod Unit where
 v _:=.el (fs.map fun f=>[.raw (.func f [])])
 ok
  | .el els=>fnsB fs els
  | _=>false
 dec _:=()
 e
  | .lsl l=>if eFns fs l=true then some ()else none
  | _=>none
 rt _:=by
  rw [V.c,yG (ajf fs)]
  simp only [eFns_v,if_true]
 inv w x h:=by
  split at h
  · split at h
    · rename_i l hl
      rw [V.c,yG (ajf fs),akD hl]
    · cases h
  · cases h
 dok u h:=by
  split at h
  · simp only [V.c]
    rw [yG h,yG (ajf fs)]
  · cases h
 safe _:=rfl
 okv _:=ajf fs
 dv _:=rfl
def Cod.ptr {α:Type}(A:Row α):Cod α where
 v x:=.lptr (A.v x) 0
 ok
  | .lptr l 0=>A.ok l
  | _=>false
 dec
  | .lptr l _=>A.dec l
  | _=>A.dec []
 e
  | .lptr l 0=>A.e l
  | _=>none
 rt x:=by rw [V.c];exact A.rt x
 inv w x h:=by
  split at h
  · rw [V.c,A.inv _ _ h]
  · cases h
 dok u h:=by
  split at h
  · simp only [V.c];rw [A.dok _ h]
  · cases h
 safe _:=rfl
 okv x:=A.okv x
 dv x:=A.dv x
 kb:=true
 kp _ _:=rfl
def Cod.opt {α:Type}(A:Row α):Cod (Option α) where
 v
  | none=>.raw .nilp
  | some x=>.lptr (A.v x) 0
 ok
  | .lptr l 0=>A.ok l
  | .raw .nilp=>true
  | _=>false
 dec
  | .lptr l _=>some (A.dec l)
  | _=>none
 e
  | .lptr l 0=>(A.e l).map some
  | .nilp=>some none
  | _=>none
 rt x:=by
  cases x with
  | none=>simp only [V.c]
  | some x=>simp only [V.c,A.rt,Option.map_some]
 inv w x h:=by
  split at h
  · rename_i l
    cases ha:A.e l with
    | none=>rw [ha]at h;cases h
    | some y=>rw [ha]at h;cases h;simp only [V.c,A.inv _ _ ha]
  · cases h;simp only [V.c]
  · cases h
 dok u h:=by
  split at h
  · simp only [V.c];rw [A.dok _ h]
  · simp only [V.c]
  · cases h
 safe x:=by cases x<;>rfl
 okv x:=by
  cases x with
  | none=>rfl
  | some x=>exact A.okv x
 dv x:=by
  cases x with
  | none=>rfl
  | some x=>exact congrArg some (A.dv x)
 sp x k:=oG x (k (.raw .nilp)) fun x=>k (.lptr (A.v x) 0)
 spk x k r h:=by
  cases x with
  | none=>exact h
  | some x=>exact h
def Cod.fn {α:Type}(f:FuncId) (A:Row α):Cod α where
 v x:=.fn f (A.v x)
 ok
  | .fn g l=>Nat.beq f g&&A.ok l
  | _=>false
 dec
  | .fn _ l=>A.dec l
  | _=>A.dec []
 e
  | .func g l=>if g=f then A.e l else none
  | _=>none
 rt x:=by rw [V.c];simp only [if_true];exact A.rt x
 inv w x h:=by
  split at h
  · split at h
    · rename_i hg;subst hg;rw [V.c,A.inv _ _ h]
    · cases h
  · cases h
 dok u h:=by
  split at h
  · simp only [Bool.and_eq_true]at h
    simp only [V.c]
    rw [A.dok _ h.2,Nat.eq_of_beq_eq_true h.1]
  · cases h
 safe _:=rfl
 okv x:=by simp only [Nat.beq_refl,A.okv,Bool.and_self]
 dv x:=A.dv x
def Cod.fn0 (f:FuncId):Cod Unit where
 v _:=.raw (.func f [])
 ok:=fnB f
 dec _:=()
 e
  | .func g []=>if g=f then some ()else none
  | _=>none
 rt x:=by rw [V.c];simp only [if_true]
 inv w x h:=by
  split at h
  · split at h
    · rename_i hg;subst hg;rw [V.c]
    · cases h
  · cases h
 dok u h:=by rw [fnB_c h,V.c]
 safe _:=rfl
 okv x:=Nat.beq_refl f
 dv x:=rfl
structure Els (α:Type) where
 v:α→List (List V)
 ok:List (List V)→Bool
 dec:List (List V)→α
 e:List (List EVal)→Option α
 rt:∀x,e (V.css (v x))=some x
 inv:∀w x,e w=some x→w=V.css (v x)
 dok:∀u,ok u=true→V.css u=V.css (v (dec u))
 okv:∀x,ok (v x)=true
 dv:∀x,dec (v x)=x
def Els.nil:Els Unit where
 v _:=[]
 ok
  | []=>true
  | _=>false
 dec _:=()
 e
  | []=>some ()
  | _=>none
 rt x:=by rw [V.css]
 inv w x h:=by
  split at h
  · rw [V.css]
  · cases h
 dok u h:=by
  split at h
  · rfl
  · cases h
 okv _:=rfl
 dv _:=rfl
def Els.cons {α β:Type}(A:Row α) (B:Els β):Els (α×β) where
 v x:=A.v x.1::B.v x.2
 ok
  | a::l=>A.ok a&&B.ok l
  | []=>false
 dec
  | a::l=>(A.dec a,B.dec l)
  | []=>(A.dec [],B.dec [])
 e
  | a::l=>(A.e a).bind fun x=>(B.e l).map fun y=>(x,y)
  | []=>none
 rt x:=by
  rw [V.css]
  simp only [A.rt,B.rt,Option.bind_some,Option.map_some]
 inv w x h:=by
  split at h
  · rename_i a l
    cases ha:A.e a with
    | none=>rw [ha]at h;cases h
    | some x1=>
      cases hl:B.e l with
      | none=>rw [ha,hl]at h;cases h
      | some x2=>
        rw [ha,hl]at h
        cases h
        rw [V.css,A.inv _ _ ha,B.inv _ _ hl]
  · cases h
 dok u h:=by
  split at h
  · rename_i a l
    simp only [Bool.and_eq_true]at h
    simp only [V.css]
    rw [A.dok _ h.1,B.dok _ h.2]
  · cases h
 okv x:=by simp only [A.okv,B.okv,Bool.and_self]
 dv x:=by simp only [A.dv,B.dv]
def Cod.lit {α:Type}(B:Els α):Cod α where
 v x:=.el (B.v x)
 ok
  | .el l=>B.ok l
  | _=>false
 dec
  | .el l=>B.dec l
  | _=>B.dec []
 e
  | .lsl l=>B.e l
  | _=>none
 rt x:=by rw [V.c];exact B.rt x
 inv w x h:=by
  split at h
  · rw [V.c,B.inv _ _ h]
  · cases h
 dok u h:=by
  split at h
  · simp only [V.c];rw [B.dok _ h]
  · cases h
 safe _:=rfl
 okv x:=B.okv x
 dv x:=B.dv x
 kb:=true
 kp _ _:=rfl
def fOf {α ρ:Type}(A:Row α) (Q:Cod ρ) (S:α→Option ρ):List EVal→Option EVal:=fun args=>(A.e args).bind fun x=>(S x).map fun r=>(Q.v r).c
theorem Fn.weak {P:Program}{g:G}{f:FuncId}{F F':List EVal→Option EVal}(h:Fn P g f F) (hw:∀a v,F' a=some v→F a=some v):Fn P g f F':=
 fun B0 W0 G a v hF=>h B0 W0 G a v (hw a v hF)
theorem rE {α ρ:Type}{A:Row α}{Q:Cod ρ}{S:α→Option ρ}{a:List EVal}{v:EVal}(h:fOf A Q S a=some v):∃x r,a=V.cs (A.v x)∧S x=some r∧v=(Q.v r).c:=by
 unfold fOf at h
 cases ha:A.e a with
 | none=>rw [ha]at h;cases h
 | some x=>
   rw [ha]at h
   simp only [Option.bind_some]at h
   cases hs:S x with
   | none=>rw [hs]at h;cases h
   | some r=>
     rw [hs]at h
     cases h
     exact⟨x,r,A.inv _ _ ha,hs,rfl⟩
def aM {α β:Type}:Option α→(α→Option β)→Option β
 | some x,k=>k x
 | none,_=>none
theorem obind_some {α β:Type}{x:α}{k:α→Option β}:aM (some x) k=k x:=rfl
theorem l6 {α β:Type}{f:α→β}{c:Bool}{a b:Option α}:(cond c a b).map f=cond c (a.map f) (b.map f):=by cases c<;>rfl
theorem jX {α β γ:Type}{f:β→γ}{x:Option α}{k:α→Option β}:(aM x k).map f=aM x fun r=>(k r).map f:=by cases x<;>rfl
theorem qO {α β γ:Type}{f:β→γ}{x:Option α}{a:Option β}{k:α→Option β}:(oG x a k).map f=oG x (a.map f) fun r=>(k r).map f:=by cases x<;>rfl
theorem den_ow {ρ:Type}{Q:Cod ρ}{W:ρ→V}(hW:∀r,(W r).c=(Q.v r).c) {t:Nat→Option V}{e:Option ρ}{r:ρ}(n:Nat) (hq:(t n).map V.c=e.map fun r=>(W r).c) (h:e=some r):∃n w,t n=some w∧w.c=(Q.v r).c:=by
 rw [h]at hq
 obtain⟨w,h1,h2⟩:=Option.map_eq_some_iff.1 hq
 exact⟨n,w,h1,h2.trans (hW r)⟩
theorem aR {α:Type}{d:α}{A:Row α}{hk:A.kb=true} {l:List α}:(V.el (l.map A.v)).c=((Cod.list d A hk).v l).c:=by
 show _=(V.fl A.w l.length fun i=>A.v (l.getD i d)).c
 rw [V.c,V.c]
 simp only [A.fixed hk]
 rw [cL d l fun x=>V.cs (A.v x),V.css_map,List.map_map];rfl
def Con.of {P:Program}{g:G}{α ρ:Type}(f:FuncId) (A:Row α) (Q:Cod ρ) (S:α→Option ρ) (h:Fn P g f (fOf A Q S)):Con P g where
 f:=f
 F:=fOf A Q S
 ok:=h
 call vs k:=cond (A.ok vs) (aM (S (A.dec vs)) fun r=>Q.sp r k) none
 sound vs k r hk:=by
  obtain⟨h1,h2⟩:=aA hk
  cases hs:S (A.dec vs)with
  | none=>rw [hs]at h2;cases h2
  | some x=>
    rw [hs]at h2
    refine⟨Q.v x,?_,Q.safe x,Q.spk _ _ _ h2⟩
    unfold fOf
    rw [A.dok vs h1,A.rt,Option.bind_some,hs];rfl
def partC1:Code→Nat→Code
 | .seq a _,0=>a
 | .seq _ b,_=>b
 | .cond _ a _,0=>a
 | .cond _ _ b,_=>b
 | .block _ a,_=>a
 | .scope a,_=>a
 | .loop a,_=>a
 | .rangeFunc _ _ x _,0=>x
 | .rangeFunc _ _ _ y,_=>y
 | c,_=>c
def subC (c:Code) (l:List Nat):Code:=l.foldl partC1 c
def ayX {P:Program}{g:G}(l:List (Con P g)):FuncId→Bool:=fun fn=>l.all fun c=>!Nat.beq c.f fn
theorem aju {P:Program}{g:G}:∀ {l:List (Con P g)}{fn:FuncId}(ts:List EVal),ayX l fn=true→fD (conT l) fn ts=none
 | [],fn,ts,_=>rfl
 | c::l,fn,ts,h=>by
   unfold ayX at h
   rw [List.all_cons,Bool.and_eq_true]at h
   show fD ((c.f,c.F)::conT l) fn ts=none
   rw [known_cons,if_neg (fun e=>by rw [e,Nat.beq_refl]at h;cases h.1)]
   exact aju ts h.2
def awj {R:Type}:FuncId→List V→D→(V→D→Option R)→Option R:=fun _ _ _ _=>none
theorem Fn.of {P:Program}{g:G}(hm:P.follows .mixedOrders=true) (hng:gG P) {f:FuncId}{fn:Func}(hfn:P.funcs[f]? = some fn) {c:Code}(hc:fn.body=some c) (l:List (Con P g)) {α ρ:Type}(A:Row α) (Q:Cod ρ) (S:α→Option ρ)
  (C:Cfg V) (p:ayu) (m:Nat) (hP:C.P=P) (hg:C.g=g) (hgd:GD C.g C.gD) (hT:EqT C.P C.T) (hkd:C.kd=conD l) (hno:C.no=ayX l) (hM:C.M=awj) (hY:C.Y=awj) (hn:tP (cA (topW C p) (rfN 2) c)=true) (hlen:∀x,(A.v x).length<1000∧Nat.max fn.ntmps (A.v x).length=p.sz)
  (H1:∀x r,S x=some r→∃n w,dFn C p m c fn.results.toList n (A.v x)=some w∧w.c=(Q.v r).c):Fn P g f (fOf A Q S):=by
 refine Fn.den hm hng hfn hc (conT l) conT_ok ?_
 intro args v hF
 unfold fOf at hF
 cases ha:A.e args with
 | none=>rw [ha]at hF;cases hF
 | some x=>
   rw [ha]at hF
   simp only [Option.bind_some]at hF
   cases hs:S x with
   | none=>rw [hs]at hF;cases hF
   | some r=>
     rw [hs]at hF
     simp only [Option.map_some,Oi]at hF
     obtain⟨n,w,h1,h2⟩:=H1 x r hs
     exact⟨C,p,m,n,A.v x,w,hn,hP,hg,⟨hgd,hT,by rw [hkd];exact akZ,fun f ts h=>aju ts (by rw [hno]at h;exact h),fun fn vs d kk r h _=>(by rw [hM]at h;cases h),fun fn vs d kk r h _=>(by rw [hY]at h;cases h)⟩,A.inv _ _ ha,A.safe x,(hlen x).1,(hlen x).2,by rw [←hF,h2],h1⟩
end
end Go.Ev
namespace Go.Ev
open Go.RowKit
noncomputable section
structure Same {α:Type} (a b:α):Prop where
 h:a=b
inductive Tr (ρ L:Type) (st:L→D) (W:ρ→V):Type 1 where
 | n
 | r (x:ρ)
 | w (x:ρ) (y:V) (h:Same y.c (W x).c)
 | g (l:L)
 | j (l:L) (d:D) (h:Same d (st l))
 | i (c:Bool) (a b:Tr ρ L st W)
 | c {α β:Type} (A:Row α) (S:α→Option β) (x:α) (k:β→Tr ρ L st W)
 | v {α β:Type} (A:Row α) (S:α→Option β) (x:List V) (k:β→Tr ρ L st W)
 | s {α:Type} (x:Option α) (a:Tr ρ L st W) (k:α→Tr ρ L st W)
 | t {α:Type} (A:Row α) (l:List α) (x:List (List V)) (h:Same x (l.map A.v)) (k:List α→Tr ρ L st W)
section
variable {ρ L:Type}{st:L→D}{W:ρ→V}
def Tr.m (J:Nat→D→Option V) (u:L→Nat) (t:Tr ρ L st W):Option V:=
 t.rec none (fun x=>some (W x)) (fun _ y _=>some y) (fun l=>J (u l) (st l)) (fun l d _=>J (u l) d) (fun c _ _ a b=>cond c a b)
  (fun A S x _ k=>cond (A.ok (A.v x)) (aM (S (A.dec (A.v x))) k) none)
  (fun A S x _ k=>cond (A.ok x) (aM (S (A.dec x)) k) none) (fun x _ _ a k=>oG x a k)
  (fun A _ x _ _ k=>cond (x.all A.ok) (k (x.map A.dec)) none)
def Tr.d (g:L→Option ρ) (t:Tr ρ L st W):Option ρ:=
 t.rec none (fun x=>some x) (fun x _ _=>some x) (fun l=>g l) (fun l _ _=>g l) (fun c _ _ a b=>cond c a b)
  (fun _ S x _ k=>aM (S x) k) (fun A S x _ k=>cond (A.ok x) (aM (S (A.dec x)) k) none) (fun x _ _ a k=>oG x a k) (fun _ l _ _ _ k=>k l)
theorem Tr.d_n {g:L→Option ρ}:(Tr.n:Tr ρ L st W).d g=none:=(rfl)
theorem Tr.d_r {g:L→Option ρ}{x:ρ}:(Tr.r x:Tr ρ L st W).d g=some x:=(rfl)
theorem Tr.d_w {g:L→Option ρ}{x:ρ}{y:V}{h:Same y.c (W x).c}:(Tr.w x y h:Tr ρ L st W).d g=some x:=(rfl)
theorem Tr.d_g {g:L→Option ρ}{l:L}:(Tr.g l:Tr ρ L st W).d g=g l:=(rfl)
theorem Tr.d_j {g:L→Option ρ}{l:L}{d:D}{h:Same d (st l)}:(Tr.j l d h:Tr ρ L st W).d g=g l:=(rfl)
theorem Tr.d_i {g:L→Option ρ}{c:Bool}{a b:Tr ρ L st W}:(Tr.i c a b).d g=cond c (a.d g) (b.d g):=(rfl)
theorem Tr.d_c {g:L→Option ρ}{α β:Type}{A:Row α}{S:α→Option β}{x:α}{k:β→Tr ρ L st W}:(Tr.c A S x k).d g=aM (S x) fun r=>(k r).d g:=(rfl)
theorem Tr.d_v {g:L→Option ρ}{α β:Type}{A:Row α}{S:α→Option β}{x:List V}{k:β→Tr ρ L st W}:(Tr.v A S x k).d g=cond (A.ok x) (aM (S (A.dec x)) fun r=>(k r).d g) none:=(rfl)
theorem Tr.d_s {g:L→Option ρ}{α:Type}{x:Option α}{a:Tr ρ L st W}{k:α→Tr ρ L st W}:(Tr.s x a k).d g=oG x (a.d g) fun r=>(k r).d g:=(rfl)
theorem Tr.d_t {g:L→Option ρ}{α:Type}{A:Row α}{l:List α}{x:List (List V)}{h:Same x (l.map A.v)}{k:List α→Tr ρ L st W}:(Tr.t A l x h k).d g=(k l).d g:=(rfl)
theorem Tr.m_d {J:Nat→D→Option V}{u:L→Nat}{g:L→Option ρ}(h:∀l,(J (u l) (st l)).map V.c=(g l).map fun r=>(W r).c) (t:Tr ρ L st W):(t.m J u).map V.c=(t.d g).map fun r=>(W r).c:=by
 induction t with
 | n=>rfl
 | r x=>rfl
 | w x y hy=>exact congrArg some hy.h
 | g l=>exact h l
 | j l d hd=>obtain⟨rfl⟩:=hd;exact h l
 | i c a b ha hb=>show(cond c (a.m J u) (b.m J u)).map _=_;rw [Tr.d_i,l6,l6,ha,hb]
 | c A S x k ih=>
   show(cond (A.ok (A.v x)) (aM (S (A.dec (A.v x))) fun r=>(k r).m J u) none).map _=_
   rw [A.okv,A.dv,Tr.d_c,cond_true,jX,jX]
   exact congrArg (aM (S x)) (funext ih)
 | v A S x k ih=>
   show(cond (A.ok x) (aM (S (A.dec x)) fun r=>(k r).m J u) none).map _=_
   rw [Tr.d_v,l6,l6,jX,jX]
   rw [show(fun r=>((k r).m J u).map V.c)=fun r=>((k r).d g).map fun r=>(W r).c from funext ih];rfl
 | s x a k ha ih=>
   show(oG x (a.m J u) (fun r=>(k r).m J u)).map _=_
   rw [Tr.d_s,qO,qO,ha]
   exact congrArg (oG x _) (funext ih)
 | t A l x hx k ih=>
   obtain⟨rfl⟩:=hx
   show(cond ((l.map A.v).all A.ok) ((k ((l.map A.v).map A.dec)).m J u) none).map _=_
   rw [show(l.map A.v).all A.ok=true by rw [List.all_eq_true];intro q hq;obtain⟨y,_,rfl⟩:=List.mem_map.1 hq;exact A.okv y,
    show(l.map A.v).map A.dec=l by rw [List.map_map];exact(List.map_congr_left fun y _=>A.dv y).trans (List.map_id l)]
   exact ih l
def Tr.lp (E:(l:L)→Tr ρ L st W) (n:Nat):L→Option ρ:=n.rec (fun _=>none) fun _ f l=>(E l).d f
theorem Tr.lp_s {E:(l:L)→Tr ρ L st W}{n:Nat}{l:L}:Tr.lp E (n+1) l=(E l).d (Tr.lp E n):=(rfl)
theorem Tr.lp_ok {J:Nat→Nat→D→Option V}{u:L→Nat}{E:(l:L)→Tr ρ L st W}(h0:∀l d,J 0 l d=none)
  (h:∀n l,J (n+1) (u l) (st l)=(E l).m (J n) u):∀n l,(J n (u l) (st l)).map V.c=(Tr.lp E n l).map fun r=>(W r).c
 | 0,l=>by rw [h0];rfl
 | k+1,l=>by rw [h,Tr.m_d (Tr.lp_ok h0 h k)];rfl
end
set_option linter.defProp false in
def TS:=Ai @Tr.d_n (Ai @Tr.d_r (Ai @Tr.d_w (Ai @Tr.d_g (Ai @Tr.d_j (Ai @Tr.d_i (Ai @Tr.d_c (Ai @Tr.d_t @Tr.d_s)))))))
structure Wk (α ρ L:Type) (W:ρ→V) where
 st:α→L→D
 u:L→Nat
 E:(x:α)→Tr ρ L (st x) W
 J:(x:α)→(l:L)→Tr ρ L (st x) W
def Wk.S {α ρ L:Type}{W:ρ→V}(w:Wk α ρ L W) (fuel:α→Nat) (x:α):Option ρ:=(w.E x).d (Tr.lp (w.J x) (fuel x))
theorem Wk.ok {α ρ L:Type}{W:ρ→V}(w:Wk α ρ L W) {fuel:α→Nat}{A:Row α}{Q:Cod ρ}{C:Cfg V}{p:ayu}{m:Nat}{c:Code}{rs:List ResultVar}(hW:∀r,(W r).c=(Q.v r).c)
  (q:∀n x,dFn C p m c rs n (A.v x)=(w.E x).m (dJ C p c rs n) w.u)
  (qJ:∀n x l,dJ C p c rs (n+1) (w.u l) (w.st x l)=(w.J x l).m (dJ C p c rs n) w.u) (x:α) (r:ρ) (h:w.S fuel x=some r) :
  ∃n v,dFn C p m c rs n (A.v x)=some v∧v.c=(Q.v r).c:=by
 refine den_ow hW (fuel x) (t:=fun n=>dFn C p m c rs n (A.v x)) ?_ h
 show Option.map V.c (dFn C p m c rs (fuel x) (A.v x))=_
 rw [q,Tr.m_d (Tr.lp_ok (J:=dJ C p c rs) (fun _ _=>rfl) (fun n l=>qJ n x l) (fuel x))];rfl
def noL {α:Type}:Nat→Option α:=fun _=>none
def noS:Empty→D:=fun e=>e.rec
def noE {ρ:Type}:Empty→Option ρ:=fun _=>none
def noT {ρ:Type}{W:ρ→V}:(l:Empty)→Tr ρ Empty noS W:=fun e=>e.rec
def wk0 {α ρ:Type}{W:ρ→V}(T:α→Tr ρ Empty noS W):Wk α ρ Empty W:=⟨fun _=>noS,fun _=>0,T,fun _=>noT⟩
def noZ:Nat→Bool:=fun _=>false
def mE (fr:List (Nat×V)) (ds:List Nat) (rd:Option Nat) (sh:List (List (Nat×V))) (n:Nat) (hp:List (Nat×DObj)) (m:Nat) (tk:List (Nat×(List (List V)×TypeId))):D:=
 ⟨⟨fr.map fun p=>(p.1,some p.2),ds,rd,sh⟩,n,hp.map fun p=>(p.1,some p.2),m,tk⟩
def mD (fr:List (Nat×V)) (n:Nat) (hp:List (Nat×DObj)) (m:Nat) (tk:List (Nat×(List (List V)×TypeId))):D:=mE fr [] none [] n hp m tk
abbrev w6 (n:Int):Int:=IntKind.i64.wrap n
end
end Go.Ev
namespace Go.Ev
open Go.RowKit
def isP (c:Nat):Bool:=c==66||c==67||c==83||c==70||c==88||c==72
def lastP (c:Nat):Bool:=c==88||c==72
abbrev Cnt:=Int×Int
def full (c:Cnt):Bool:=c.1==4||c.2==3
def stepC (c:Cnt) (x:Nat):Cnt:=
 if x=66 then(c.1+1,c.2)else if x=67∨x=83 then(c.1,c.2+1)else if x=70 then(if c.2<2 then(c.1,c.2+1)else c)else c
def doneC (c:Cnt) (x:Nat):Bool:=full (stepC c x)||lastP x
def cnt:Cnt→Bool→List Nat→(Cnt×Bool) ⊕ Nat
 | c,d,[]=>.inl (c,d)
 | c,d,x::l=>if d||!isP x then .inr 0 else
   match cnt (stepC c x) (doneC c x) l with
   | .inl r=>.inl r
   | .inr k=>.inr (k+1)
theorem t9 (c:Cnt) (d:Bool) (l m:List Nat):cnt c d (l++m)=match cnt c d l with
  | .inl (c',d')=>(match cnt c' d' m with | .inl r=>.inl r | .inr k=>.inr (l.length+k))
  | .inr k=>.inr k:=by
 induction l generalizing c d with
 | nil=>
   simp only [List.nil_append,cnt,List.length_nil,Nat.zero_add]
   cases cnt c d m<;>rfl
 | cons x l ih=>
   simp only [List.cons_append,cnt]
   by_cases h:(d||!isP x)=true
   · simp only [h,if_true]
   · simp only [Bool.eq_false_iff.2 h,Bool.false_eq_true,if_false]
     rw [ih]
     cases cnt (stepC c x) (doneC c x) l with
     | inr k=>rfl
     | inl r=>
       obtain⟨c',d'⟩:=r
       simp only
       cases cnt c' d' m with
       | inl r=>rfl
       | inr k=>simp only [List.length_cons];congr 1;omega
def okC (c:Cnt) (d:Bool):Prop:=0≤c.1∧0≤c.2∧c.1≤4∧c.2≤3∧(d=false→c.1≤3∧c.2≤2)
theorem ajQ {c:Cnt}{x:Nat}(h:okC c false):okC (stepC c x) (doneC c x):=by
 obtain⟨h1,h2,h3,h4,h5⟩:=h
 obtain⟨h5,h6⟩:=h5 rfl
 have:∃a b,c=(a,b):=⟨_,_,rfl⟩
 obtain⟨a,b,rfl⟩:=this
 unfold doneC okC full stepC
 simp only at *
 refine⟨?_,?_,?_,?_,?_⟩
 · split<;>(try split)<;>(try split)<;>(try split)<;>simp only<;>omega
 · split<;>(try split)<;>(try split)<;>(try split)<;>simp only<;>omega
 · split<;>(try split)<;>(try split)<;>(try split)<;>simp only<;>omega
 · split<;>(try split)<;>(try split)<;>(try split)<;>simp only<;>omega
 · intro h
   simp only [Bool.or_eq_false_iff,beq_eq_false_iff_ne]at h
   revert h
   split<;>(try split)<;>(try split)<;>(try split)<;>simp only<;>omega
theorem cnt_ok {c:Cnt}{d:Bool}{l:List Nat}{c':Cnt}{d':Bool}(h:okC c d) (hc:cnt c d l=.inl (c',d')):okC c' d':=by
 induction l generalizing c d with
 | nil=>simp only [cnt,Sum.inl.injEq,Prod.mk.injEq]at hc;obtain⟨rfl,rfl⟩:=hc;exact h
 | cons x l ih=>
   simp only [cnt]at hc
   split at hc
   · cases hc
   · rename_i hd
     simp only [Bool.or_eq_true,Bool.not_eq_true',not_or,Bool.not_eq_true,Bool.not_eq_false]at hd
     obtain⟨rfl,_⟩:=hd
     cases hr:cnt (stepC c x) (doneC c x) l with
     | inr k=>rw [hr]at hc;cases hc
     | inl r=>
       rw [hr]at hc
       cases hc
       exact ih (ajQ h) hr
end Go.Ev
namespace Go.Ev
open Go.RowKit
structure Mv where
 f:Int
 t:Int
 o:Bool
 h:List Nat
 b:List Int
def eMove (m:Mv):List EVal:=[.int .i64 m.f,.int .i64 m.t,.bool m.o,.str m.h,.lsl (eInts m.b)]
def yM (l:List Mv):List (List EVal):=l.map eMove
end Go.Ev
namespace Go.Ev
open Go.RowKit
def sV (f:EVal→Option EVal):List EVal→Option (List EVal)
 | []=>some []
 | v::l=>match f v,sV f l with
   | some a,some b=>some (a::b)
   | _,_=>none
noncomputable def sW (P:Program) (h:H):Nat→EVal→Option EVal
 | 0,_=>none
 | n + 1, v => match v with
   | .agg l=>(sV (sW P h n) l).map .agg
   | .tup l=>(sV (sW P h n) l).map .tup
   | .slice id off len cap=>match h.get id with
     | some (.row cs e _ _ _)=>match aH P e with
       | some sz=>match takeN cs off (len*sz)with
         | some r=>match sV (sW P h n) r with
           | some r'=>if capOK len cap=true∧sz≠0 then some (.lsl (chunk sz len r'))else none
           | none=>none
         | none=>none
       | none=>none
     | _=>none
   | .ptr id off=>match h.get id with
     | some (.row cs _ _ _ _)=>match sV (sW P h n) cs with
       | some r=>some (.lptr r off)
       | none=>none
     | _=>none
   | v=>keep1 v
def mC (B0:Nat) (W0:eU) (w:World):Nat→Option (List Value):=fun b=>if b<B0 then W0.fro b else dO w b
section
variable {P:Program}{B0:Nat}{W0:eU}{g:G}{K:aK}
theorem fz_mix {ρ:Loc}{h:H}{w:World}(R:HRel P B0 W0 ρ h w):ρ.fz.le ⟨fun _=>none,mC B0 W0 w,fun _ _=>none⟩:=
 ⟨fun _ _ h=>(by cases h),fun b pre hb=>by
  have hb':ρ.fro b=some pre:=hb
  show ∃more,(if b<B0 then W0.fro b else dO w b)=_
  by_cases hlt:b<B0
  · rw [if_pos hlt,←R.fz0 b hlt];exact⟨[],by rw [hb',List.append_nil]⟩
  · rw [if_neg hlt];exact(avp R.fz).fro b pre hb,fun _ _ _ h=>(by cases h)⟩
theorem avs {ρ:Loc}{h:H}{w:World}(R:HRel P B0 W0 ρ h w):FzOK (mC B0 W0 w) w:=fun b pre hb=>by
 unfold mC at hb
 split at hb
 · rename_i hlt;exact R.fz b pre (by rw [R.fz0 b hlt];exact hb)
 · exact rB w b pre hb
theorem fH {ρ A:Loc}{f:EVal→Option EVal}(hf:∀v v' u,VRel ρ v u→f v=some v'→VRel A v' u):∀ {l l':List EVal}{us:List Value},VsRel ρ l us→sV f l=some l'→VsRel A l' us
 | [],l',us,h,hk=>by
   simp only [sV,Oi]at hk;subst hk
   cases h;exact .nil
 | v :: l,l',us,h,hk=>by
   simp only [sV]at hk
   split at hk
   · rename_i a b ha hb
     simp only [Oi]at hk;subst hk
     cases h with
     | cons _ u _ us h hs=>exact .cons _ _ _ _ (hf _ _ _ h ha) (fH hf hs hb)
   · cases hk
theorem rK {ρ : Loc} {h:H} {w:World}(R:HRel P B0 W0 ρ h w):∀(n:Nat) (v v':EVal) (u:Value),VRel ρ v u→sW P h n v=some v'→VRel ⟨fun _=>none,mC B0 W0 w,fun _ _=>none⟩ v' u
 | 0,_,_,_,_,hk=>by cases hk
 | n + 1, v, v', u, hv,hk=>by
   have ih:=rK R n
   have own:∀id b C,ρ id=some (b,C)→∀cv e m,w.heap[b]? = some (.cells cv e m)→mC B0 W0 w b=some cv.toList:=by
    intro id b C hb cv e m hw
    have:=(R.lo _ _ _ hb).1
    unfold mC
    rw [if_neg (by omega)]
    simp [dO,hw]
   unfold sW at hk
   split at hk
   · rename_i l
     cases hl:sV (sW P h n) l with
     | none=>rw [hl]at hk;cases hk
     | some l'=>
       rw [hl]at hk;cases hk
       cases hv with|agg _ cs hc=>exact .agg _ _ (fH ih hc hl)
   · rename_i l
     cases hl:sV (sW P h n) l with
     | none=>rw [hl]at hk;cases hk
     | some l'=>
       rw [hl]at hk;cases hk
       cases hv with|tup _ cs hc=>exact .tup _ _ (fH ih hc hl)
   · rename_i id off len cap
     split at hk
     · rename_i cs e lo hi sl hg
       split at hk
       · rename_i sz hsz
         split at hk
         · rename_i r hr
           split at hk
           · rename_i r' hr'
             split at hk
             rotate_left
             · cases hk
             rename_i hcond
             obtain⟨hcap,hsz0⟩:=hcond
             cases hk
             unfold takeN at hr
             simp only at hr
             split at hr
             · rename_i hl
               cases hr
               have key:∀(b C c':Nat),ρ id=some (b,C)→len≤c'→VRel ⟨fun _=>none,mC B0 W0 w,fun _ _=>none⟩ (.lsl (chunk sz len r')) (.slice (some ⟨b,off,none⟩) len c'):=by
                intro b C c' hb hc
                obtain⟨b',C',hb',cv,hw,hrel,_⟩:=R.objs _ _ hg
                rw [hb]at hb';cases hb'
                have h1:=(hrel.drop off).take (len*sz)
                have h2:=fH ih h1 hr'
                have h3:r'.length=len*sz:=by rw [h2.length,←h1.length,hl]
                obtain⟨uss,c1,c2,c3,c4⟩:=dS sz len r' _ h2 h3
                by_cases h0:len=0
                · subst h0;exact .lsl0 _ _
                have hlen:(chunk sz len r').length=len:=aT _ _ _
                have hfa:=own _ _ _ hb _ _ _ hw
                by_cases hoff:off≤cv.toList.length
                · have:=VRel.lsl (ρ:=⟨fun _=>none,mC B0 W0 w,fun _ _=>none⟩) (chunk sz len r') uss b off c' sz cv.toList (((cv.toList.drop off).drop uss.flatten.length)) hfa c1 ?_ hoff c3 (by rw [hlen];exact hc)
                  · rw [hlen]at this;exact this
                  · have hpre:uss.flatten=(cv.toList.drop off).take uss.flatten.length:=by
                     conv=>lhs;rw [c2]
                     have hl3:uss.flatten.length=len*sz:=by rw [dX uss c3,c4]
                     rw [hl3,List.drop_take,List.take_take]
                     have hl2:=hl
                     simp only [List.length_take,List.length_drop]at hl2
                     rw [Nat.min_eq_left (by omega)]
                    conv=>lhs;rw [←List.take_append_drop uss.flatten.length (cv.toList.drop off)]
                    rw [←hpre]
                · have hcl:=hrel.length
                  simp only [List.length_take,List.length_drop,Array.length_toList]at hcl hl hoff
                  have:0<len*sz:=Nat.mul_pos (by omega) (by omega)
                  omega
               cases hv with
               | slice _ _ _ c b C hb=>exact key _ _ _ hb (by simpa [capOK]using hcap)
               | slack _ _ _ _ c b C hb hc hn=>exact key _ _ _ hb hn
             · cases hr
           · cases hk
         · cases hk
       · cases hk
     · cases hk
   · rename_i id off
     split at hk
     · rename_i cs e lo hi sl hg
       split at hk
       · rename_i r hr
         cases hk
         cases hv with
         | ptr _ _ b C hb=>
           obtain⟨b',C',hb',cv,hw,hrel,_⟩:=R.objs _ _ hg
           rw [hb]at hb';cases hb'
           have:=VRel.lptr (ρ:=⟨fun _=>none,mC B0 W0 w,fun _ _=>none⟩) r off (cv.toList.take cs.length) b 0 cv.toList (cv.toList.drop cs.length) (own _ _ _ hb _ _ _ hw)
            (fH ih hrel hr) (by rw [List.drop_zero,List.take_append_drop]) (Nat.zero_le _)
           rwa [Nat.zero_add]at this
       · cases hk
     · cases hk
   · exact((iG hv hk).1).mono (fz_mix R)
noncomputable def nF (P:Program) (v:EVal):Option (List Out)→Bool
 | some l=>l.all fun o=>match o with
   | .val x h=>match sW P h 9 x with
     | some y=>EVal.beq y v
     | none=>false
   | _=>false
 | none=>false
end
end Go.Ev
namespace Go.Ev
end Go.Ev
namespace Go.Ev
open Go.RowKit
noncomputable def ay6 (P:Program):Option (List Out)→Option EVal
 | some (.val x h::l)=>match sW P h 9 x with
   | some v=>bif nF P v (some (.val x h::l))then some v else none
   | none=>none
 | _=>none
noncomputable def auto (P:Program) (g:G) (K:aK) (n:Nat) (f:FuncId):List EVal→Option EVal:=fun a=>ay6 P (Go.Ev.run P g K n (.call f a H.start))
section
variable {P:Program}{B0:Nat}{W0:eU}{g:G}{K:aK}
theorem akb {o:Option (List Out)}{v:EVal}(h:ay6 P o=some v):nF P v o=true:=by
 unfold ay6 at h
 split at h
 · rename_i x h' l
   split at h
   · rename_i u hu
     cases hk:nF P u (some (.val x h'::l))with
     | false=>rw [hk]at h;cases h
     | true=>rw [hk]at h;cases h;exact hk
   · cases h
 · cases h
end
noncomputable def autoT (P:Program) (g:G) (n:Nat):List FuncId→wR
 | []=>[]
 | f::l=>(f,auto P g (fD (autoT P g n l)) n f)::autoT P g n l
end Go.Ev
namespace Go.Ev
open Go.RowKit
end Go.Ev
namespace Go.Ev
open Go.RowKit
structure Ent (P:Program) (g:G) where
 f:FuncId
 F:List EVal→Option EVal
 ok:Fn P g f F
def l8 {P:Program}{g:G}:List (Ent P g)→aK
 | [],_,_=>none
 | e::l,k,args=>bif Nat.beq e.f k then(match e.F args with
   | some v=>some v
   | none=>l8 l k args)else l8 l k args
theorem qV {P:Program}{g:G}{B0:Nat}{W0:eU}(G:GRel B0 W0.w g):∀(l:List (Ent P g)),KOK P B0 W0 (l8 l)
 | []=>fun _ _ _ h=>by cases h
 | e :: l=>by
   intro k args v hk
   simp only [l8,Bool.cond_eq_ite]at hk
   split at hk
   · rename_i hb
     obtain rfl:=Nat.eq_of_beq_eq_true hb
     split at hk
     · rename_i u hu
       cases hk
       exact e.ok B0 W0 G args _ hu
     · exact qV G l e.f args v hk
   · exact qV G l k args v hk
def H.st (b:Bool):H:=⟨0,T.full none 14,bif b then 128 else 0,T.full none 8⟩
theorem HRel.st {P:Program}(b:Bool) (w:World) {fro:Nat→Option (List Value)}(hF:FzOK fro w):HRel P w.heap.size ⟨w,fro⟩ (Loc.start fro) (H.st b) w:=
 (HRel.start w hF).mode (m:=bif b then 128 else 0) (Nat.zero_le _)
theorem Fn.runE {P:Program}{g:G}(hm:P.follows .mixedOrders=true) (hng:gG P) (l:List (Ent P g)) {f:FuncId}{F:List EVal→Option EVal}{n:Nat}{b:Bool}
  (H1:∀a v,F a=some v→nF P v (Go.Ev.run P g (l8 l) n (.call f a (H.st b)))=true):Fn P g f F:=by
 intro B0 W0 G a v hF vs fro w hvs hfz hb hs
 have h:=H1 a v hF
 have G1:GRel w.heap.size w g:=G.grow hb hs
 cases hr:Go.Ev.run P g (l8 l) n (.call f a (H.st b))with
 | none=>rw [hr]at h;cases h
 | some outs=>
   rw [hr]at h
   have hall:=List.all_eq_true.1 h
   refine(((lW hm hng G1 (qV (W0:=⟨w,fro⟩) G1 l) n).call f a _ outs hr vs _ w hvs (HRel.st b w hfz))).mono ?_
   rintro e w' ⟨x,h',u,ρ,hmem,rfl,hle,hv,hR⟩
   have:=hall _ hmem
   simp only at this
   split at this
   · rename_i y hy
     have e:=EVal.beq_eq this
     subst e
     exact⟨u,dO w',rfl,rK hR 9 _ _ _ hv hy,hR.below,avs hR⟩
   · cases this
def oneF (a:List EVal) (v:EVal):List EVal→Option EVal:=fun b=>bif azP b a then some v else none
def Ent.row {P:Program}{g:G}(hm:P.follows .mixedOrders=true) (hng:gG P) (l:List (Ent P g)) (n:Nat) (b:Bool) (f:FuncId) (a:List EVal) (v:EVal) (h:nF P v (Go.Ev.run P g (l8 l) n (.call f a (H.st b)))=true):Ent P g:=
 ⟨f,oneF a v,Fn.runE hm hng l (n:=n) (b:=b) fun a' v' h'=>by
  unfold oneF at h'
  simp only [Bool.cond_eq_ite]at h'
  split at h'
  · rename_i hb;cases h';rw [beqL_eq hb];exact h
  · cases h'⟩
noncomputable def Ent.auto {P:Program}{g:G}(hm:P.follows .mixedOrders=true) (hng:gG P) (l:List (Ent P g)) (n:Nat) (f:FuncId):Ent P g:=
 ⟨f,fun a=>ay6 P (Go.Ev.run P g (l8 l) n (.call f a (H.st false))),Fn.runE hm hng l (n:=n) (b:=false) fun _ _ h=>akb h⟩
noncomputable def autos {P:Program}{g:G}(hm:P.follows .mixedOrders=true) (hng:gG P) (l:List (Ent P g)) (n:Nat):List FuncId→List (Ent P g)
 | []=>l
 | f::fs=>Ent.auto hm hng (autos hm hng l n fs) n f::autos hm hng l n fs
end Go.Ev
namespace Go.Ev
open Go.RowKit
abbrev ρ0 (w:World):Loc:=⟨fun _=>none,dO w,fun _ _=>none⟩
theorem VssRel.map {ρ:Loc}{E:Nat→List EVal}{C:Nat→List Value}:∀ {l:List Nat},(∀i∈l,VsRel ρ (E i) (C i))→VssRel ρ (l.map E) (l.map C)
 | [],_=>.nil
 | i::l,h=>.cons _ _ _ _ (h i List.mem_cons_self) (VssRel.map fun j hj=>h j (List.mem_cons_of_mem _ hj))
theorem VRel.rows {w:World}{a:Addr}{len cap sz:Nat}(hcap:len≤cap) (hsz:0<sz) (E:Nat→List EVal) (C:Nat→List Value)
  (hC:∀i,i<len→w.cells? 0 (a.add (i*sz)) sz=some (C i)) (hE:∀i,i<len→VsRel (ρ0 w) (E i) (C i)) :
  VRel (ρ0 w) (.lsl ((List.range len).map E)) (.slice (some a) len cap):=by
 by_cases h0:len=0
 · subst h0;exact .lsl0 a cap
 have hc:∀i,i<len→(C i).length=sz∧∀j,j<sz→w.cell? ((a.add (i*sz)).add j)=(C i)[j]? := fun i hi=>by
  obtain⟨_,h1,h2⟩:=World.cells?_some (hC i hi)
  exact⟨h1,h2⟩
 obtain⟨v,hv⟩:∃v,w.cell? a=some v:=by
  obtain⟨h1,h2⟩:=hc 0 (by omega)
  have:=h2 0 hsz
  simp only [Nat.zero_mul,Addr.add,if_true]at this
  rw [this]
  exact⟨_,List.getElem?_eq_getElem (by omega)⟩
 obtain⟨b,off,spot⟩:=a
 unfold World.cell? at hv
 split at hv
 rotate_left
 · cases hv
 rename_i cs e m hw
 simp only at hw
 split at hv
 · cases hv
 rename_i hsp
 obtain rfl:spot=none:=by cases spot with
  | none=>rfl
  | some x=>simp at hsp
 simp only at hv
 have hoff:off<cs.size:=(Array.getElem?_eq_some_iff.1 hv).1
 have hcell:∀o,w.cell? ⟨b,o,none⟩=cs.toList[o]? := fun o=>by
  unfold World.cell?
  simp only [hw]
  simp
 have hrow:∀n,n<len→(cs.toList.drop (off+n*sz)).take sz=C n:=fun n hn=>by
  obtain⟨h1,h2⟩:=hc n hn
  apply List.ext_getElem?
  intro j
  by_cases hj:j<sz
  · rw [List.getElem?_take_of_lt hj,List.getElem?_drop,←hcell,←h2 j hj]
    congr 1
    simp only [Addr.add]
    by_cases e1:n*sz=0<;>by_cases e2:j=0<;>simp [e1,e2]
  · rw [List.getElem?_eq_none (by rw [List.length_take];omega),List.getElem?_eq_none (by omega)]
 have key:∀n,n≤len→(cs.toList.drop off).take (n*sz)=((List.range n).map C).flatten:=by
  intro n
  induction n with
  | zero=>intro _;simp
  | succ n ih=>
    intro hn
    rw [Nat.succ_mul,List.take_add,ih (by omega),List.range_succ,List.map_append,List.flatten_append,List.drop_drop]
    simp only [List.map_cons,List.map_nil,List.flatten_cons,List.flatten_nil,List.append_nil]
    rw [hrow n (by omega)]
 have hl:((List.range len).map E).length=len:=by simp
 have:=VRel.lsl (ρ:=ρ0 w) ((List.range len).map E) ((List.range len).map C) b off cap sz cs.toList ((cs.toList.drop off).drop (len*sz)) (by show dO w b=_;unfold dO;rw [hw])
  (VssRel.map fun i hi=>hE i (by simpa using hi)) (by rw [←key len (Nat.le_refl _),List.take_append_drop]) (by simp;omega)
  (fun u hu=>by obtain⟨i,hi,rfl⟩:=List.mem_map.1 hu;exact(hc i (by simpa using hi)).1) (by rw [hl];exact hcap)
 rw [hl]at this
 exact this
end Go.Ev
namespace Go.Ev
open Go.ChangeShapes Go.WideShapes Go.ChangeAt Go.RowKit Go.Lib Go.Joins Go.Deep
inductive Kd where
 | i (k:IntKind)
 | b
 | s
 | l (ks:List Kd)
def l9 (P:Program) (f:TypeId→Option (List Kd)):List Field→Nat→Option (List Kd)
 | [],_=>some []
 | x::fs,o=>match f x.type,l9 P f fs (o+P.cellsOf x.type)with
   | some a,some b=>bif Nat.beq x.offset o&&Nat.beq a.length (P.cellsOf x.type)then some (a++b)else none
   | _,_=>none
def kdRep (ks:List Kd):Nat→List Kd
 | 0=>[]
 | n+1=>ks++kdRep ks n
def kdT (P:Program):Nat→TypeId→Option (List Kd)
 | 0,_=>none
 | n + 1,t=>match P.underlying t with
   | some .bool=>some [.b]
   | some (.int k)=>some [.i k]
   | some .string=>some [.s]
   | some (.struct fs)=>match l9 P (kdT P n) fs.toList 0 with
     | some ks=>bif Nat.beq ks.length (P.cellsOf t)then some ks else none
     | none=>none
   | some (.array m e)=>match kdT P n e with
     | some ks=>bif Nat.beq ks.length (P.cellsOf e)&&Nat.beq (m*ks.length) (P.cellsOf t)then some (kdRep ks m)else none
     | none=>none
   | some (.slice e)=>match kdT P n e with
     | some ks=>bif Nat.beq ks.length (P.cellsOf e)&&Nat.blt 0 ks.length then some [.l ks]else none
     | none=>none
   | _=>none
mutual
inductive awD:Kd→EVal→Prop
 | i (k:IntKind) (n:Int) (h:(Lit.int k n).wf=true):awD (.i k) (.int k n)
 | b (b:Bool):awD .b (.bool b)
 | s (s:ByteArray) (h:s.size≤maxLen):awD .s (.str (s.data.toList.map UInt8.toNat))
 | l (ks:List Kd) (rows:List (List EVal)) (hl:rows.length≤maxLen) (h:SuitR ks rows):awD (.l ks) (.lsl rows)
inductive Suits:List Kd→List EVal→Prop
 | nil:Suits [] []
 | cons (k:Kd) (ks:List Kd) (e:EVal) (es:List EVal) (h:awD k e) (hs:Suits ks es):Suits (k::ks) (e::es)
inductive SuitR:List Kd→List (List EVal)→Prop
 | nil (ks:List Kd):SuitR ks []
 | cons (ks:List Kd) (r:List EVal) (rs:List (List EVal)) (h:Suits ks r) (hs:SuitR ks rs):SuitR ks (r::rs)
end
theorem Suits.append {a b:List Kd}{x y:List EVal}(h:Suits a x) (h2:Suits b y):Suits (a++b) (x++y):=by
 induction a generalizing x with
 | nil=>cases h;exact h2
 | cons k ks ih=>cases h with|cons _ _ e es h hs=>exact .cons _ _ _ _ h (ih hs)
theorem SuitR.range {ks:List Kd}{E:Nat→List EVal}:∀ {l:List Nat},(∀i∈l,Suits ks (E i))→SuitR ks (l.map E)
 | [],_=>.nil _
 | i::l,h=>.cons _ _ _ (h i List.mem_cons_self) (SuitR.range fun j hj=>h j (List.mem_cons_of_mem _ hj))
section
variable {H:Type}{enc:TypeId×Value→H}{P:Program}{w:World}
theorem kM {f:TypeId→Option (List Kd)}{tr:TypeId→List Value→Option (DataW H×List MemPlace)}{cs:List Value}
  (hf:∀t ks c p,f t=some ks→tr t c=some p→∃es,VsRel (ρ0 w) es c∧Suits ks es):∀ {fs:List Field} {xs:List (DataW H×List MemPlace)} {o:Nat} {ks:List Kd},
  l9 P f fs o=some ks→xs.length=fs.length→(∀(i:Nat) (x:Field),fs[i]? = some x→tr x.type ((cs.drop x.offset).take (P.cellsOf x.type))=xs[i]?)→∃es,VsRel (ρ0 w) es ((cs.drop o).take ks.length)∧Suits ks es
 | [],xs,o,ks,h,_,_=>by
   simp only [l9,Oi]at h;subst h
   exact⟨[],by simpa using VsRel.nil,.nil⟩
 | x::fs,[],o,ks,h,hl,_=>by simp at hl
 | x :: fs,y::ys,o,ks,h,hl,ht=>by
   simp only [l9]at h
   split at h
   · rename_i a b ha hb
     simp only [Bool.cond_eq_ite]at h
     split at h
     · rename_i hx
       simp only [Bool.and_eq_true,Nat.beq_eq]at hx
       simp only [Oi]at h;subst h
       obtain⟨hxo,hal⟩:=hx
       have h0:=ht 0 x rfl
       rw [hxo]at h0
       obtain⟨e1,r1,f1⟩:=hf _ _ _ y ha (by rw [h0];rfl)
       obtain⟨e2,r2,f2⟩:=kM hf hb (by simpa using hl) (fun i z hz=>ht (i+1) z (by simpa using hz))
       refine⟨e1++e2,?_,f1.append f2⟩
       rw [List.length_append,List.take_add,List.drop_drop,hal]
       exact r1.append r2
     · cases h
   · cases h
theorem qY {tr:List Value→Option (DataW H×List MemPlace)}{c:Nat}{cs:List Value}{ks:List Kd}(hc:ks.length=c)
  (hf:∀u p,tr u=some p→∃es,VsRel (ρ0 w) es u∧Suits ks es) {xs:List (DataW H×List MemPlace)}:∀ {m k:Nat},k+m≤xs.length→(∀(i:Nat),i<xs.length→tr ((cs.drop (i*c)).take c)=xs[i]?)→∃es,VsRel (ρ0 w) es ((cs.drop (k*c)).take (m*c))∧Suits (kdRep ks m) es
 | 0,k,_,_=>⟨[],by simpa using VsRel.nil,.nil⟩
 | m+1,k,hk,ht=>by
   have h0:=ht k (by omega)
   obtain⟨e1,r1,f1⟩:=hf _ _ (by rw [h0];exact List.getElem?_eq_getElem (show k<xs.length by omega))
   obtain⟨e2,r2,f2⟩:=qY hc hf (m:=m) (k:=k+1) (by omega) ht
   refine⟨e1++e2,?_,f1.append f2⟩
   rw [show(m+1)*c=c+m*c by rw [Nat.succ_mul];omega,List.take_add,List.drop_drop,show k*c+c=(k+1)*c by rw [Nat.succ_mul]]
   exact r1.append r2
theorem awg : ∀(n:Nat) {m:Nat}{t:TypeId}{cs:List Value}{x:DataW H×List MemPlace}{ks:List Kd},kdT P n t=some ks→DataW.trod enc P w 0 (fun _=>true) true m t cs=some x→∃es,VsRel (ρ0 w) es cs∧Suits ks es
 | 0,_,_,_,_,_,h,_=>by cases h
 | n + 1, m, t,cs,x,ks,h,ht=>by
   simp only [kdT]at h
   split at h
   · rename_i hu
     simp only [Oi]at h;subst h
     obtain⟨b,rfl,_⟩:=DataW.trod_bool hu ht
     exact⟨_,.cons _ _ _ _ (.bool b) .nil,.cons _ _ _ _ (.b _) .nil⟩
   · rename_i k hu
     simp only [Oi]at h;subst h
     obtain⟨z,rfl,_,hw⟩:=DataW.trod_int hu ht
     exact⟨_,.cons _ _ _ _ (.int k z) .nil,.cons _ _ _ _ (.i _ _ hw) .nil⟩
   · rename_i hu
     simp only [Oi]at h;subst h
     obtain⟨s,rfl,_,hs⟩:=DataW.trod_string hu ht
     exact⟨_,.cons _ _ _ _ (.str _ s rfl) .nil,.cons _ _ _ _ (.s s hs) .nil⟩
   · rename_i fs hu
     split at h
     · rename_i ks' hk
       simp only [Bool.cond_eq_ite]at h
       split at h
       · rename_i hl
         simp only [Nat.beq_eq]at hl
         simp only [Oi]at h;subst h
         obtain⟨xs,m',_,_,hcl,hxl,hxs⟩:=DataW.trod_struct hu ht
         obtain⟨es,r,f⟩:=kM (tr:=fun t c=>DataW.trod enc P w 0 (fun _=>true) true m' t c) (cs:=cs) (fun t ks c p h1 h2=>awg n h1 h2) hk (by simpa using hxl) (fun i x hx=>hxs i x (by rw [←Array.getElem?_toList];exact hx))
         rw [List.drop_zero,hl,←hcl,List.take_length]at r
         exact⟨es,r,f⟩
       · cases h
     · cases h
   · rename_i k e hu
     split at h
     · rename_i ks' hk
       simp only [Bool.cond_eq_ite]at h
       split at h
       · rename_i hl
         simp only [Bool.and_eq_true,Nat.beq_eq]at hl
         simp only [Oi]at h;subst h
         obtain⟨xs,m',_,_,hcl,hxl,hxs⟩:=DataW.trod_array hu ht
         obtain⟨es,r,f⟩:=qY (tr:=fun c=>DataW.trod enc P w 0 (fun _=>true) true m' e c) (cs:=cs) (ks:=ks') hl.1 (fun u p h2=>awg n hk h2) (xs:=xs) (m:=k) (k:=0) (by omega) (fun i hi=>hxs i (by omega))
         rw [Nat.zero_mul,List.drop_zero,←hl.1,hl.2,←hcl,List.take_length]at r
         exact⟨es,r,f⟩
       · cases h
     · cases h
   · rename_i e hu
     split at h
     · rename_i ks' hk
       simp only [Bool.cond_eq_ite]at h
       split at h
       · rename_i hl
         simp only [Bool.and_eq_true,Nat.beq_eq,Nat.blt_eq]at hl
         simp only [Oi]at h;subst h
         rcases open_slice hu ht with⟨hcs,_⟩ | ⟨a,len,cap,m',n',D,Pl,hcs,_,hlc,hcm,hmm,_,hx⟩
         · subst hcs
           exact⟨[.lsl []],.cons _ _ _ _ .lsln .nil,.cons _ _ _ _ (.l _ _ (Nat.zero_le _) (.nil _)) .nil⟩
         · subst hcs
           have hle:len≤m':=by rw [hmm];simp;omega
           obtain⟨C,hC⟩:=choose_lt (α:=List Value) (n:=len) (p:=fun i cs=>w.cells? 0 (a.add (i*P.cellsOf e)) (P.cellsOf e)=some cs∧∃es,VsRel (ρ0 w) es cs∧Suits ks' es) (fun i hi=>by
            obtain⟨cs',h1,h2⟩:=hx i (by omega)
            exact⟨cs',h1,awg n hk h2⟩)
           obtain⟨V,hV⟩:=choose_lt (α:=List EVal) (n:=len) (p:=fun i es=>VsRel (ρ0 w) es (C i)∧Suits ks' es) (fun i hi=>(hC i hi).2)
           refine⟨[.lsl ((List.range len).map V)],.cons _ _ _ _ (VRel.rows hlc (by omega) V C (fun i hi=>(hC i hi).1) (fun i hi=>(hV i hi).1)) .nil,.cons _ _ _ _ (.l _ _ (by simp;omega) (SuitR.range fun i hi=>(hV i (by simpa using hi)).2)) .nil⟩
       · cases h
     · cases h
   · cases h
theorem awf {r:Reach}{b0 n:Nat}{t:TypeId}{v:Value}{d:DataW H}{p:List MemPlace}{k:Kd}(hk:kdT P n t=some [k]) (ht:(match P.underlying t with|some (.int _)=>true|some .string=>true|some .bool=>true|some (.slice _)=>true|_=>false)=true)
  (hv:Value.okWide P w r b0 t v) (h:DataW.Trod enc P w 0 (fun _=>true) true t v d p):∃e,VRel (ρ0 w) e v∧awD k e:=by
 have hc:v.cells.toList=[v]:=by
  split at ht
  · rename_i q hu;obtain⟨n,rfl⟩:=okWide_int hu hv;rfl
  · rename_i hu
    obtain⟨fuel,hf⟩:=h
    obtain⟨s,hs,_⟩:=DataW.trod_string hu hf
    unfold Value.okWide at hv
    rw [hu]at hv
    cases v<;>first|rfl|(simp [Cell.okWide,Cell.ok,hu]at hv)
  · rename_i hu
    unfold Value.okWide at hv
    rw [hu]at hv
    cases v<;>first|rfl|(simp [Cell.okWide,Cell.ok,hu]at hv)
  · rename_i e hu;obtain⟨a,len,cap,rfl⟩:=okWide_slice hu hv;rfl
  · cases ht
 obtain⟨fuel,hf⟩:=h
 rw [hc]at hf
 obtain⟨es,h1,h2⟩:=awg n hk hf
 cases h2 with
 | cons _ _ e es h hs=>
   cases hs
   cases h1 with
   | cons _ _ _ _ r rs=>exact⟨e,r,h⟩
end
noncomputable section
def KC {α:Type}(A:Cod α) (k:Kd):Prop:=∀e,awD k e→∃x,e=(A.v x).c
def KR {α:Type}(A:Row α) (ks:List Kd):Prop:=∀es,Suits ks es→∃x,es=V.cs (A.v x)
theorem KC.int (k:IntKind):KC (azO k) (.i k):=fun e h=>by cases h with|i _ n _=>exact⟨n,rfl⟩
theorem KC.bool:KC cB .b:=fun e h=>by cases h with|b x=>exact⟨x,rfl⟩
theorem KC.str:KC cS .s:=fun e h=>by cases h with|s x _=>exact⟨_,rfl⟩
theorem KR.nil:KR Row.nil []:=fun es h=>by cases h;exact⟨(),rfl⟩
theorem KR.cons {α β:Type}{A:Cod α}{B:Row β}{k:Kd}{ks:List Kd}(h1:KC A k) (h2:KR B ks):KR (Row.cons A B) (k::ks):=fun es h=>by
 cases h with
 | cons _ _ e es h hs=>
   obtain⟨x,rfl⟩:=h1 _ h
   obtain⟨y,rfl⟩:=h2 _ hs
   exact⟨(x,y),rfl⟩
theorem KR.iso {α β:Type}{A:Row α}{to:α→β}{of:β→α}{g1:∀y,to (of y)=y} {g2:∀x,of (to x)=x} {ks:List Kd}(h:KR A ks):KR (Row.iso A to of g1 g2) ks:=fun es he=>by
 obtain⟨x,rfl⟩:=h _ he
 exact⟨to x,by show _=V.cs (A.v (of (to x)));rw [g2]⟩
theorem KC.list {α:Type}{d:α}{A:Row α}{hk:A.kb=true} {ks:List Kd}(h:KR A ks):KC (Cod.list d A hk) (.l ks):=fun e he=>by
 cases he with
 | l _ rows hl hr=>
   have : ∃l:List α,rows=l.map fun x=>V.cs (A.v x):=by
    clear hk hl
    induction rows with
    | nil=>exact⟨[],rfl⟩
    | cons r rs ih=>
      cases hr with
      | cons _ _ _ h1 hs=>
        obtain⟨x,rfl⟩:=h _ h1
        obtain⟨l,rfl⟩:=ih hs
        exact⟨x::l,rfl⟩
   obtain⟨l,rfl⟩:=this
   exact⟨l,(Cod.list d A hk).inv _ _ (A.es_rt l)⟩
end
end Go.Ev
namespace Go.Ev
open Go.ChangeShapes Go.WideShapes Go.ChangeAt Go.RowKit Go.Lib Go.Joins Go.Deep
section
variable {H:Type}{enc:TypeId×Value→H}{P:Program}
theorem vD {f:Func}{s:ChangeSpec}{apart fresh handsOn again:Bool}{W W':World}{args:Array Value}{v:Value}{ds gs:List (DataW H)}{before pa pv:List MemPlace}
  (hW:DataW.Whole enc P f.params.toList s.vars apart W args.toList ds gs before)
  (hres:∀(b:Nat) (sp:Nat→Bool) (hd:Bool),DataW.TrodAll enc P W' b sp hd f.resultTypes.toList (v.resultList f.resultTypes.size) (s.fn H (ds++gs)).results [])
  (hargs:∀sp:Nat→Bool,(∀p∈before,sp p.block=true)→DataW.TrodAll enc P W' 0 sp true f.params.toList args.toList (s.fn H (ds++gs)).args pa)
  (hvars:∀sp:Nat→Bool,(∀p∈before,sp p.block=true)→DataW.TrodVars enc P W' sp s.vars (s.fn H (ds++gs)).vars pv)
  (hps:before=pa++pv) (hb:Below W.heap.size W W')
  (hok:∀(j:Nat) (t:TypeId) (r:Value),f.resultTypes[j]? = some t→(v.resultList f.resultTypes.size)[j]? = some r→Value.okWide P W' .any 0 t r) :
  s.post enc P f apart fresh handsOn again W args v W':=by
 have hlt:∀p∈before,p.block<W.heap.size:=fun p hp=>hW.lt p hp
 have hold:∀p∈before,(fun b=>decide (b<W.heap.size)) p.block=true:=fun p hp=>by simpa using hlt p hp
 refine⟨ds,gs,before,[],pa,pv,hW,hres _ _ _,hargs _ hold,hvars _ hold,World.keptBut_mono (fun p hp=>⟨hp,?_⟩) (hb.frame (·∈before)),fun _=>?_⟩
 · rw [hps,List.mem_append]at hp
   exact Or.inr hp
 · obtain ⟨_,_,_,_,_,hz,hn⟩:=hW
   refine⟨hok,_,_,([]++pa)++pv,⟨[]++pa,pv,trodAll_append (hargs _ (fun _ _=>rfl)) (hres _ _ _),hvars _ (fun _ _=>rfl),rfl,?_,?_⟩,?_⟩
   · intro b off hp
     have hin:MemPlace.cell b off∈before:=by rw [hps];simpa using hp
     rw [hb.frozen (hlt _ hin)]
     exact hz b off hin
   · intro ha
     have:=hn ha
     rw [hps]at this
     simpa using this
   · intro p hp _
     rw [hps]
     simpa using hp
end
theorem jB {P:Program}{x:String×DataW Unit}{l:List (String×DataW Unit)}{W:World}(h:laidMet P (x::l) W):laidMet P l W:=by
 obtain⟨n,d⟩:=x
 obtain⟨ps,⟨g,t,cs,fuel,p,q,_,_,_,_,hr,rfl⟩,hn,hb⟩:=h
 exact⟨q,hr,(List.nodup_append.1 hn).2.1,fun b off hm=>hb b off (List.mem_append_right _ hm)⟩
def layV:Nat→DataW Unit→List Value
 | 0,_=>[]
 | n+1,d=>match d with
   | .lit (.bool b)=>[.bool b]
   | .lit (.int k m)=>[.int k m]
   | .lit (.string l)=>[.string ⟨l.toArray⟩]
   | .agg ds=>(ds.map (layV n)).flatten
   | _=>[]
def layH:List (Nat×DataW Unit)→Array Obj→Array Obj
 | [],h=>h
 | (g,d)::l,h=>layH l (h.modify g fun
   | .cells _ t frozen=>.cells (layV 9 d).toArray t frozen
   | o=>o)
end Go.Ev

