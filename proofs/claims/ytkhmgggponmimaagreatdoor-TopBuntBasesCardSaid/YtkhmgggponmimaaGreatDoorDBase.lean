import Derived.Test.YtkhmgggponmimaaGreatDoorEvE
import Derived.Test.YtkhmgggponmimaaGreatDoorBase
set_option linter.unusedSimpArgs false
set_option linter.unusedVariables false
namespace Go.Ev
open Go.RowKit Go.Proofs
set_option maxRecDepth 100000
noncomputable section
def pA (f:Func):Code:=f.body.getD .skip
def nB:Row Int:=Row.iso (Row.cons cI Row.nil) (fun x=>x.1) (fun n=>(n,())) (fun _=>rfl) (fun _=>rfl)
def gdS:Nat→Option (List V):=fun b=>bif Nat.beq b 2 then awX waysL else none
theorem gdOK:GD gT gdS:=by
 intro b cs h
 unfold gdS at h
 cases hb:Nat.beq b 2 with
 | false=>rw [hb]at h;cases h
 | true=>
   rw [hb]at h
   obtain rfl:=Nat.eq_of_beq_eq_true hb
   have:=oI h
   rw [this];rfl
def eqTab:List (Nat×List Nat):=[(30,[0,0,0]),(31,[0,0]),(33,[0,0,0,0,0,0,0,0,0,0,0,0,1]),(93,[1,1,1,1])]
def eqS:TypeId→Option (List Nat):=fun t=>lookA eqTab t
theorem ayE:∀p∈eqTab,aja Tryz.prog p.1=some p.2:=by
 unfold eqTab
 simp only [List.forall_mem_cons]
 exact⟨by kernel_rfl,by kernel_rfl,by kernel_rfl,by kernel_rfl,fun _ h=>by cases h⟩
theorem eqOK:EqT Tryz.prog eqS:=fun t ks h=>ayE _ (cM h)
def cfgS (l:List (Con Tryz.prog gT)) (lz:Nat→Bool):Cfg V:=⟨Tryz.prog,gT,gdS,eqS,conD l,lz,ayX l,awj,awj⟩
def aP (f:FuncId) {fn:Func}(hfn:Tryz.prog.funcs[f]? = some fn) (l:List (Con Tryz.prog gT)) (lz:Nat→Bool) (p:ayu) (m:Nat) {α ρ L:Type}(A:Row α) (Q:Cod ρ) (S:α→Option ρ) {W:ρ→V}(w:Wk α ρ L W) (fuel:α→Nat) (hW:∀r,(W r).c=(Q.v r).c:=by intro r;rfl) (hS:∀x,S x=w.S fuel x:=by intro x;rfl)
  (hc:fn.body=some (pA fn):=by kernel_rfl)
  (q:∀n x,dFn (cfgS l lz) p m (pA fn) fn.results.toList n (A.v x)=(w.E x).m (dJ (cfgS l lz) p (pA fn) fn.results.toList n) w.u:=by intro n x;kernel_rfl)
  (qJ:∀n x l',dJ (cfgS l lz) p (pA fn) fn.results.toList (n+1) (w.u l') (w.st x l')=(w.J x l').m (dJ (cfgS l lz) p (pA fn) fn.results.toList n) w.u:=by intro n x l;cases l<;>kernel_rfl)
  (hn:tP (cA (topW (cfgS l lz) p) (rfN 2) (pA fn))=true:=by kernel_rfl) (h1:Nat.blt A.w 1000=true:=by kernel_rfl) (h2:Nat.max fn.ntmps A.w=p.sz:=by kernel_rfl):Con Tryz.prog gT:=
 Con.of f A Q S (Fn.of mixed noNG hfn hc l A Q S (cfgS l lz) p m rfl rfl gdOK eqOK rfl rfl rfl rfl hn (fun x=>by rw [A.len];exact⟨by rwa [Nat.blt_eq]at h1,h2⟩) fun x r h=>w.ok hW q qJ x r ((hS x).symm.trans h))
def mv0:Mv:=⟨0,0,false,[],[]⟩
def rMv:Row Mv:=Row.iso (Row.cons cI (Row.cons cI (Row.cons cB (Row.cons cS (Row.cons (Cod.list 0 nB) Row.nil))))) (fun x=>⟨x.1,x.2.1,x.2.2.1,x.2.2.2.1,x.2.2.2.2.1⟩) (fun y=>(y.f,y.t,y.o,y.h,y.b,())) (fun _=>rfl) (fun _=>rfl)
structure Pl where
 p:List Nat
 e:List Nat
 l:Bool
 m:List (Mv)
def pl0:Pl:=⟨[],[],false,[]⟩
def rPl:Row Pl:=Row.iso (Row.cons cS (Row.cons cS (Row.cons cB (Row.cons (Cod.list mv0 rMv) Row.nil)))) (fun x=>⟨x.1,x.2.1,x.2.2.1,x.2.2.2.1⟩) (fun y=>(y.p,y.e,y.l,y.m,())) (fun _=>rfl) (fun _=>rfl)
structure St where
 inn:Int
 half:Int
 outs:Int
 balls:Int
 strikes:Int
 b1:Int
 b2:Int
 b3:Int
 n0:Int
 n1:Int
 c0:Int
 c1:Int
 over:Bool
 deriving DecidableEq
def st0:St:=⟨0,0,0,0,0,0,0,0,0,0,0,0,false⟩
def rSt:Row St:=Row.iso (Row.cons cI (Row.cons cI (Row.cons cI (Row.cons cI (Row.cons cI (Row.cons cI (Row.cons cI (Row.cons cI (Row.cons cI (Row.cons cI (Row.cons cI (Row.cons cI (Row.cons cB Row.nil))))))))))))) (fun x=>⟨x.1,x.2.1,x.2.2.1,x.2.2.2.1,x.2.2.2.2.1,x.2.2.2.2.2.1,x.2.2.2.2.2.2.1,x.2.2.2.2.2.2.2.1,x.2.2.2.2.2.2.2.2.1,x.2.2.2.2.2.2.2.2.2.1,x.2.2.2.2.2.2.2.2.2.2.1,x.2.2.2.2.2.2.2.2.2.2.2.1,x.2.2.2.2.2.2.2.2.2.2.2.2.1⟩) (fun y=>(y.inn,y.half,y.outs,y.balls,y.strikes,y.b1,y.b2,y.b3,y.n0,y.n1,y.c0,y.c1,y.over,())) (fun _=>rfl) (fun _=>rfl)
structure Wy where
 o:Bool
 l:List Nat
 r:Int
 b:Int
def rWay:Row Wy:=Row.iso (Row.cons cB (Row.cons cS (Row.cons cI (Row.cons cI Row.nil)))) (fun x=>⟨x.1,x.2.1,x.2.2.1,x.2.2.2.1⟩) (fun y=>(y.o,y.l,y.r,y.b,())) (fun _=>rfl) (fun _=>rfl)
def gW:List V:=[.bool false,.str [98],.int .i64 (3:Int),.int .i64 (3:Int),.bool false,.str [97],.int .i64 (3:Int),.int .i64 (3:Int),.bool false,.str [115],.int .i64 (0:Int),.int .i64 (3:Int),.bool false,.str [112],.int .i64 (3:Int),.int .i64 (3:Int),.bool false,.str [107],.int .i64 (0:Int),.int .i64 (3:Int),.bool false,.str [116],.int .i64 (3:Int),.int .i64 (3:Int),.bool false,.str [111],.int .i64 (3:Int),.int .i64 (3:Int),.bool true,.str [102],.int .i64 (2:Int),.int .i64 (2:Int),.bool true,.str [103],.int .i64 (3:Int),.int .i64 (4:Int),.bool true,.str [99],.int .i64 (2:Int),.int .i64 (0:Int),.bool true,.str [100],.int .i64 (0:Int),.int .i64 (1:Int),.bool true,.str [107],.int .i64 (2:Int),.int .i64 (0:Int),.bool true,.str [110],.int .i64 (2:Int),.int .i64 (3:Int),.bool true,.str [121],.int .i64 (2:Int),.int .i64 (0:Int)]
end
end Go.Ev
