import Derived.Test.YtgnnhpffealmmaaGreatDoorEvE
import Derived.Test.YtgnnhpffealmmaaGreatDoorBase
set_option linter.unusedSimpArgs false
set_option linter.unusedVariables false
namespace Go.Ev
open Go.RowKit Go.Proofs
set_option maxRecDepth 100000
noncomputable section
def y0 (f:Func):Code:=f.body.getD .skip
def ax8:Row Int:=Row.iso (Row.cons cI Row.nil) (fun x=>x.1) (fun n=>(n,())) (fun _=>rfl) (fun _=>rfl)
def fM:Row (List Nat):=Row.iso (Row.cons cS Row.nil) (fun x=>x.1) (fun n=>(n,())) (fun _=>rfl) (fun _=>rfl)
def gdS:Nat→Option (List V):=fun b=>bif Nat.beq b 0 then ajT aqN else none
theorem gdOK:GD gT gdS:=by
 intro b cs h
 unfold gdS at h
 cases hb0:Nat.beq b 0 with
 | true=>
   rw [hb0]at h
   obtain rfl:=Nat.eq_of_beq_eq_true hb0
   have:=lU h
   rw [this];rfl
 | false=>
 rw [hb0]at h
 cases h
def eqTab:List (Nat×List Nat):=[(23,[2,2])]
def eqS:TypeId→Option (List Nat):=fun t=>lookA eqTab t
theorem aji:∀p∈eqTab,wR Tryz.prog p.1=some p.2:=by
 unfold eqTab
 simp only [List.forall_mem_cons]
 exact⟨by kernel_rfl,fun _ h=>by cases h⟩
theorem eqOK:EqT Tryz.prog eqS:=fun t ks h=>aji _ (bS h)
def cfgS (l:List (Con Tryz.prog gT)) (lz:Nat→Bool):Cfg V:=⟨Tryz.prog,gT,gdS,eqS,conD l,lz,ajz l,aj6,aj6⟩
def eG (f:FuncId) {fn:Func}(hfn:Tryz.prog.funcs[f]? = some fn) (l:List (Con Tryz.prog gT)) (lz:Nat→Bool) (p:axW) (m:Nat) {α ρ L:Type}(A:Row α) (Q:Cod ρ) (S:α→Option ρ) {W:ρ→V}(w:Wk α ρ L W) (fuel:α→Nat) (hW:∀r,(W r).c=(Q.v r).c:=by intro r;rfl) (hS:∀x,S x=w.S fuel x:=by intro x;rfl)
  (hc:fn.body=some (y0 fn):=by kernel_rfl)
  (q:∀n x,dFn (cfgS l lz) p m (y0 fn) fn.results.toList n (A.v x)=(w.E x).m (dJ (cfgS l lz) p (y0 fn) fn.results.toList n) w.u:=by intro n x;kernel_rfl)
  (qJ:∀n x l',dJ (cfgS l lz) p (y0 fn) fn.results.toList (n+1) (w.u l') (w.st x l')=(w.J x l').m (dJ (cfgS l lz) p (y0 fn) fn.results.toList n) w.u:=by intro n x l;cases l<;>kernel_rfl)
  (hn:pI (bO (topW (cfgS l lz) p) (rfN 2) (y0 fn))=true:=by kernel_rfl) (h1:Nat.blt A.w 1000=true:=by kernel_rfl) (h2:Nat.max fn.ntmps A.w=p.sz:=by kernel_rfl):Con Tryz.prog gT:=
 Con.of f A Q S (Fn.of mixed noNG hfn hc l A Q S (cfgS l lz) p m rfl rfl gdOK eqOK rfl rfl rfl rfl hn (fun x=>by rw [A.len];exact⟨by rwa [Nat.blt_eq]at h1,h2⟩) fun x r h=>w.ok hW q qJ x r ((hS x).symm.trans h))
structure Ln where
 p:List Nat
 t:List Nat
 c0:Int
 c1:Int
 c2:Int
 c3:Int
 c4:Int
 c5:Int
 c6:Int
 c7:Int
 c8:Int
 c9:Int
 c10:Int
 c11:Int
def ln0:Ln:=⟨[],[],0,0,0,0,0,0,0,0,0,0,0,0⟩
noncomputable def rLn:Row Ln:=Row.iso (Row.cons cS (Row.cons cS (Row.cons cI (Row.cons cI (Row.cons cI (Row.cons cI (Row.cons cI (Row.cons cI (Row.cons cI (Row.cons cI (Row.cons cI (Row.cons cI (Row.cons cI (Row.cons cI Row.nil)))))))))))))) (fun x=>⟨x.1,x.2.1,x.2.2.1,x.2.2.2.1,x.2.2.2.2.1,x.2.2.2.2.2.1,x.2.2.2.2.2.2.1,x.2.2.2.2.2.2.2.1,x.2.2.2.2.2.2.2.2.1,x.2.2.2.2.2.2.2.2.2.1,x.2.2.2.2.2.2.2.2.2.2.1,x.2.2.2.2.2.2.2.2.2.2.2.1,x.2.2.2.2.2.2.2.2.2.2.2.2.1,x.2.2.2.2.2.2.2.2.2.2.2.2.2.1⟩) (fun y=>(y.p,y.t,y.c0,y.c1,y.c2,y.c3,y.c4,y.c5,y.c6,y.c7,y.c8,y.c9,y.c10,y.c11,())) (fun _=>rfl) (fun _=>rfl)
structure Gm where
 n:List Nat
 v:Int
 d:Int
 t0:List Nat
 t1:List Nat
 s0:Int
 s1:Int
 l:List (Ln)
def gm0:Gm:=⟨[],0,0,[],[],0,0,[]⟩
noncomputable def rGm:Row Gm:=Row.iso (Row.cons cS (Row.cons cI (Row.cons cI (Row.cons cS (Row.cons cS (Row.cons cI (Row.cons cI (Row.cons (Cod.list ln0 rLn) Row.nil)))))))) (fun x=>⟨x.1,x.2.1,x.2.2.1,x.2.2.2.1,x.2.2.2.2.1,x.2.2.2.2.2.1,x.2.2.2.2.2.2.1,x.2.2.2.2.2.2.2.1⟩) (fun y=>(y.n,y.v,y.d,y.t0,y.t1,y.s0,y.s1,y.l,())) (fun _=>rfl) (fun _=>rfl)
structure Bk where
 g:List (Gm)
def rBk:Row Bk:=Row.iso (Row.cons (Cod.list gm0 rGm) Row.nil) (fun x=>⟨x.1⟩) (fun y=>(y.g,())) (fun _=>rfl) (fun _=>rfl)
def gK:List V:=[.str [97,98],.str [104],.str [100],.str [116],.str [104,114],.str [114],.str [114,98,105],.str [119],.str [107],.str [115,98],.str [112,111],.str [101]]
end
end Go.Ev
