import Derived.Test.YtfhbflaighfmpaaGreatDoorEvD
import Derived.Test.YtfhbflaighfmpaaGreatDoorBase
set_option linter.unusedSimpArgs false
set_option linter.unusedVariables false
namespace Go.Ev
open Go.RowKit Go.Proofs
set_option maxRecDepth 100000
noncomputable section
def rO (f:Func):Code:=f.body.getD .skip
def a7:Row Int:=Row.iso (Row.cons cI Row.nil) (fun x=>x.1) (fun n=>(n,())) (fun _=>rfl) (fun _=>rfl)
def gdS:Nat→Option (List V):=fun b=>bif Nat.beq b 4 then bqY waysL else none
theorem gdOK:GD gT gdS:=by
 intro b cs h;unfold gdS at h;cases hb:Nat.beq b 4 with
 | false=>rw [hb]at h;cases h| true=>rw [hb]at h;obtain rfl:=Nat.eq_of_beq_eq_true hb;have:=qN h;rw [this];rfl
def eqTab:List (Nat×List Nat):=[(51,[0,0,0]),(52,[0,0]),(78,[0,0,0,0,0,0,0,0,0,0,0,0,1]),(54,[0,0,0,0,0,0,0,0,0,0,0,0,1]),(40,[0,0,0,0,0,0,0,0]),(41,[0,0,0,0,0,0,0,0]),(72,[1,1,1,1])]
def eqS:TypeId→Option (List Nat):=fun t=>lookA eqTab t
theorem bjM:∀p∈eqTab,azM Tryz.prog p.1=some p.2:=by unfold eqTab;simp only [List.forall_mem_cons];exact⟨by kernel_rfl,by kernel_rfl,by kernel_rfl,by kernel_rfl,by kernel_rfl,by kernel_rfl,by kernel_rfl,fun _ h=>by cases h⟩
theorem eqOK:EqT Tryz.prog eqS:=fun t ks h=>bjM _ (dF h)
def cfgS (l:List (Con Tryz.prog gT)) (lz:Nat→Bool):Cfg V:=⟨Tryz.prog,gT,gdS,eqS,conD l,lz,bj6 l,bqs,bqs⟩
def aU (f:FuncId) {fn:Func}(hfn:Tryz.prog.funcs[f]? = some fn) (l:List (Con Tryz.prog gT)) (lz:Nat→Bool) (p:bxV) (m:Nat) {α ρ L:Type}(A:Row α) (Q:Cod ρ) (S:α→Option ρ) {W:ρ→V}(w:Wk α ρ L W) (fuel:α→Nat) (hW:∀r,(W r).c=(Q.v r).c:=by intro r;rfl) (hS:∀x,S x=w.S fuel x:=by intro x;rfl)
  (hc:fn.body=some (rO fn):=by kernel_rfl)
  (q:∀n x,dFn (cfgS l lz) p m (rO fn) fn.results.toList n (A.v x)=(w.E x).m (dJ (cfgS l lz) p (rO fn) fn.results.toList n) w.u:=by intro n x;kernel_rfl)
  (qJ:∀n x l',dJ (cfgS l lz) p (rO fn) fn.results.toList (n+1) (w.u l') (w.st x l')=(w.J x l').m (dJ (cfgS l lz) p (rO fn) fn.results.toList n) w.u:=by intro n x l;cases l<;>kernel_rfl)
  (hn:wE (cY (topW (cfgS l lz) p) (rfN 2) (rO fn))=true:=by kernel_rfl) (h1:Nat.blt A.w 1000=true:=by kernel_rfl) (h2:Nat.max fn.ntmps A.w=p.sz:=by kernel_rfl):Con Tryz.prog gT:=
 Con.of f A Q S (Fn.of mixed noNG hfn hc l A Q S (cfgS l lz) p m rfl rfl gdOK eqOK rfl rfl rfl rfl hn (fun x=>by rw [A.len];exact⟨by rwa [Nat.blt_eq]at h1,h2⟩) fun x r h=>w.ok hW q qJ x r ((hS x).symm.trans h))
def mv0:Mv:=⟨0,0,false,[],[]⟩
def rMv:Row Mv:=Row.iso (Row.cons cI (Row.cons cI (Row.cons cB (Row.cons cS (Row.cons (Cod.list 0 a7) Row.nil))))) (fun x=>⟨x.1,x.2.1,x.2.2.1,x.2.2.2.1,x.2.2.2.2.1⟩) (fun y=>(y.f,y.t,y.o,y.h,y.b,())) (fun _=>rfl) (fun _=>rfl)
structure Pl where
 p:List Nat
 e:List Nat
 l:Bool
 m:List (Mv)
def pl0:Pl:=⟨[],[],false,[]⟩
def rPl:Row Pl:=Row.iso (Row.cons cS (Row.cons cS (Row.cons cB (Row.cons (Cod.list mv0 rMv) Row.nil)))) (fun x=>⟨x.1,x.2.1,x.2.2.1,x.2.2.2.1⟩) (fun y=>(y.p,y.e,y.l,y.m,())) (fun _=>rfl) (fun _=>rfl)
structure St where
 inn:Int
 half:Int
 outs:Int
 balls:Int
 strikes:Int
 b1:Int
 b2:Int
 b3:Int
 n0:Int
 n1:Int
 c0:Int
 c1:Int
 over:Bool
 deriving DecidableEq
def st0:St:=⟨0,0,0,0,0,0,0,0,0,0,0,0,false⟩
def rSt:Row St:=Row.iso (Row.cons cI (Row.cons cI (Row.cons cI (Row.cons cI (Row.cons cI (Row.cons cI (Row.cons cI (Row.cons cI (Row.cons cI (Row.cons cI (Row.cons cI (Row.cons cI (Row.cons cB Row.nil))))))))))))) (fun x=>⟨x.1,x.2.1,x.2.2.1,x.2.2.2.1,x.2.2.2.2.1,x.2.2.2.2.2.1,x.2.2.2.2.2.2.1,x.2.2.2.2.2.2.2.1,x.2.2.2.2.2.2.2.2.1,x.2.2.2.2.2.2.2.2.2.1,x.2.2.2.2.2.2.2.2.2.2.1,x.2.2.2.2.2.2.2.2.2.2.2.1,x.2.2.2.2.2.2.2.2.2.2.2.2.1⟩) (fun y=>(y.inn,y.half,y.outs,y.balls,y.strikes,y.b1,y.b2,y.b3,y.n0,y.n1,y.c0,y.c1,y.over,())) (fun _=>rfl) (fun _=>rfl)
structure Hf where
 inn:Int
 side:Int
 frm:Int
 to:Int
 runs:Int
 turns:Int
 outs:Int
 left:Int
def hf0:Hf:=⟨0,0,0,0,0,0,0,0⟩
def rHf:Row Hf:=Row.iso (Row.cons cI (Row.cons cI (Row.cons cI (Row.cons cI (Row.cons cI (Row.cons cI (Row.cons cI (Row.cons cI Row.nil)))))))) (fun x=>⟨x.1,x.2.1,x.2.2.1,x.2.2.2.1,x.2.2.2.2.1,x.2.2.2.2.2.1,x.2.2.2.2.2.2.1,x.2.2.2.2.2.2.2.1⟩) (fun y=>(y.inn,y.side,y.frm,y.to,y.runs,y.turns,y.outs,y.left,())) (fun _=>rfl) (fun _=>rfl)
structure Wy where
 o:Bool
 l:List Nat
 r:Int
 b:Int
def rWay:Row Wy:=Row.iso (Row.cons cB (Row.cons cS (Row.cons cI (Row.cons cI Row.nil)))) (fun x=>⟨x.1,x.2.1,x.2.2.1,x.2.2.2.1⟩) (fun y=>(y.o,y.l,y.r,y.b,())) (fun _=>rfl) (fun _=>rfl)
def gW:List V:=[.bool false,.str [98],.int .i64 (3:Int),.int .i64 (3:Int),.bool false,.str [97],.int .i64 (3:Int),.int .i64 (3:Int),.bool false,.str [115],.int .i64 (0:Int),.int .i64 (3:Int),.bool false,.str [112],.int .i64 (3:Int),.int .i64 (3:Int),.bool false,.str [107],.int .i64 (0:Int),.int .i64 (3:Int),.bool false,.str [116],.int .i64 (3:Int),.int .i64 (3:Int),.bool false,.str [111],.int .i64 (3:Int),.int .i64 (3:Int),.bool true,.str [102],.int .i64 (2:Int),.int .i64 (2:Int),.bool true,.str [103],.int .i64 (3:Int),.int .i64 (4:Int),.bool true,.str [99],.int .i64 (2:Int),.int .i64 (0:Int),.bool true,.str [100],.int .i64 (0:Int),.int .i64 (1:Int),.bool true,.str [107],.int .i64 (2:Int),.int .i64 (0:Int),.bool true,.str [110],.int .i64 (2:Int),.int .i64 (3:Int),.bool true,.str [121],.int .i64 (2:Int),.int .i64 (0:Int)]
end
end Go.Ev
namespace Go.Ev
open Go.RowKit Go.Proofs
set_option maxRecDepth 20000
set_option maxHeartbeats 4000000
noncomputable def awO:FuncId→Bool:=fun f=>Nat.beq f 100000
noncomputable def quiet:aW:=awN Tryz.prog gT 100 awO
def axX (b:Bool):Option (List Out)→Bool
 | some l=>l.all fun o=>match o with | .val (.bool c) _=>c==b|_=>false
 | none=>false
theorem bqj {f:FuncId}{F:List EVal→Option EVal}{n:Nat}(H1:∀a u,F a=some u→∃b,u=.bool b∧axX b (run Tryz.prog gT quiet n (.call f a H.start))=true):FnT f F:=by
 intro B0 W0 G a u hF vs fro w hvs hfz hb hs;obtain⟨b,rfl,h⟩:=H1 a u hF;have G1:GRel w.heap.size w gT:=G.grow hb hs;cases hr:run Tryz.prog gT quiet n (.call f a H.start)with
 | none=>rw [hr]at h;cases h| some outs=>
   rw [hr]at h;have hall:∀o∈outs,(match o with | .val (.bool c) _=>c==b|_=>false)=true:=List.all_eq_true.1 h;refine(s8 mixed noNG hfz G1 (aqR (W0:=⟨w,fro⟩) mixed noNG G1 100 awO) hr hvs).mono ?_;rintro e w' ⟨v,h',u,ρ,hm,rfl,hv,hR⟩;have:=hall _ hm;split at this
   · rename_i heq;cases heq;cases hv;simp only [beq_iff_eq]at this;subst this;refine⟨_,ρ.fro,rfl,.bool _,hR.below,?_⟩;have hfro:(fun b=>if b<w.heap.size then fro b else ρ.fro b)=ρ.fro:=by
      funext b;split;· rename_i hb;exact(hR.fz0 b hb).symm
      · rfl
     rw [hfro];exact hR.fz
   · cases this
theorem nbeq (x k:Nat):(((x:Nat):Int)==((k:Nat):Int))=(x==k):=by rw [Bool.eq_iff_iff,beq_iff_eq,beq_iff_eq];omega
def hasC (l:List Nat) (c:Int):Bool:=l.any fun x=>(x:Int)==c
theorem awf {l:List Nat}{c:Int}{k x:Nat}(h:l[k]? = some x):hasC (l.drop k) c=(((x:Int)==c)||hasC (l.drop (k+1)) c):=by obtain⟨hk,rfl⟩:=List.getElem?_eq_some_iff.1 h;rw [List.drop_eq_getElem_cons hk];rfl
theorem awz (s:ByteArray) (i:Nat) (h:128≤(s.get! i).toNat):128≤(Utf8.decode s i).1:=by
 unfold Utf8.decode;simp only [Nat.add_zero];rw [if_neg (by omega)];have h2:128≤Utf8.runeError:=by decide
 split
 · split;· assumption
   · exact h2
 · split
   · split;· rename_i h3;simp only [Bool.and_eq_true,decide_eq_true_eq]at h3;omega
     · exact h2
   · split
     · split;· rename_i h3;simp only [Bool.and_eq_true,decide_eq_true_eq]at h3;omega
       · exact h2
     · exact h2
def bB (l:List Nat):Bool:=l.all fun c=>decide (c<256)
theorem avI {l:List Nat}{k c:Nat}(h:l[k]? = some c) (hc:c<128):eN l k=some (c,1):=by unfold eN;rw [h];simp [hc]
theorem aw1 {l:List Nat}{k c:Nat}(hb:bB l=true) (h:l[k]? = some c) (hc:¬c<128):∃r w,eN l k=some (r,w)∧128≤r:=by
 unfold eN;rw [h];simp only [hc,if_false];refine⟨_,_,rfl,awz _ _ ?_⟩;have hlt:c<256:=by have:=List.all_eq_true.1 hb c (List.mem_of_getElem? h);simpa using this
 have hk:=(List.getElem?_eq_some_iff.1 h).1;have:((⟨(l.map UInt8.ofNat).toArray⟩:ByteArray).get! k)=UInt8.ofNat c:=by
  show((l.map UInt8.ofNat).toArray)[k]! = _;have hq:(l.map UInt8.ofNat)[k]? = some (UInt8.ofNat c):=by simp [h]
  simp [hq]
 rw [this];simp;omega
def withinB (n lo hi:Int):Bool:=decide (lo≤n)&&decide (n≤hi)
def dV (n lo hi:Int):Int:=if n<lo∨hi<n then 3 else 0
theorem bjC {l:List Nat}{c i:Nat}(h:∀x∈l,x<128) (hc:128≤c):bF l c i=-1:=by
 induction l generalizing i with
 | nil=>rfl| cons x l ih=>unfold bF;rw [if_neg (by have:=h x List.mem_cons_self;omega)];exact ih fun y hy=>h y (List.mem_cons_of_mem _ hy)
theorem runeE_cases (r:Int) (h:128≤r):(∃a b:Nat,cO r=[a,b]∧128≤b∧b<256)∨(∃a b c:Nat,cO r=[a,b,c]∧128≤c∧c<256)∨(∃a b c d:Nat,cO r=[a,b,c,d]∧128≤d∧d<256):=by
 unfold cO Utf8.encode;have hc:∃n:Nat,(if Utf8.valid r then r.toNat else Utf8.runeError)=n∧128≤n:=by
  split;· exact⟨_,rfl,by omega⟩
  · exact⟨_,rfl,by decide⟩
 obtain⟨n,hn,h128⟩:=hc;simp only [hn];have e:∀k:Nat,(UInt8.ofNat (128+k % 64)).toNat=128+k % 64:=fun k=>by simp;omega
 rw [if_neg (by omega)];split;· exact .inl ⟨_,_,rfl,by rw [e];omega,by rw [e];omega⟩
 split;· exact .inr (.inl ⟨_,_,_,rfl,by rw [e];omega,by rw [e];omega⟩)
 · exact .inr (.inr ⟨_,_,_,_,rfl,by rw [e];omega,by rw [e];omega⟩)
theorem n8 {n:Nat}(h:128≤n):isP n=false:=by simp [isP];omega
end Go.Ev
namespace Go.Ev
open Go.RowKit Go.Proofs
set_option maxRecDepth 100000
set_option maxHeartbeats 4000000
noncomputable section
theorem bjB (l:List Nat):((List.range 256).map fun c=>run Tryz.prog gT quiet 2000 (.call 199 [.str l,.int .u8 ((c:Nat):Int)] H.start))=(List.range 256).map fun c=>some [.val (.int .i64 (bF l c 0)) H.start]:=by kernel_rfl
def A230:Row (List Nat×Int×Unit):=Row.cons cS (Row.cons cU8 Row.nil)
def S230 (x:List Nat×Int×Unit):Option Int:=if 0≤x.2.1∧x.2.1<256 then some (bF x.1 x.2.1.toNat 0)else none
theorem fn230:FnT 199 (fOf A230 cI S230):=by
 intro B0 W0 G a u hF vs fro w hvs hfz hb hs;obtain⟨⟨l,c,_⟩,r,rfl,h1,rfl⟩:=jN hF;unfold S230 at h1;split at h1;rotate_left;· cases h1
 rename_i hc;cases h1;dsimp only at hc hvs ⊢;obtain⟨k,rfl⟩:∃k:Nat,c=(k:Int):=⟨c.toNat,by omega⟩;have hk:k<256:=by omega
 have hr:run Tryz.prog gT quiet 2000 (.call 199 [.str l,.int .u8 ((k:Nat):Int)] H.start)=some [.val (.int .i64 (bF l k 0)) H.start]:=by have:=congrArg (fun q=>q[k]?) (bjB l);simpa [hk]using this
 have e:V.cs (A230.v (l,((k:Nat):Int),()))=[.str l,.int .u8 ((k:Nat):Int)]:=by show V.cs [V.str l,V.int .u8 _]=_;simp only [V.cs,V.c]
 rw [e]at hvs;have G1:GRel w.heap.size w gT:=G.grow hb hs;refine(s8 mixed noNG hfz G1 (aqR (W0:=⟨w,fro⟩) mixed noNG G1 100 awO) hr hvs).mono ?_;rintro e w' ⟨v,h',u,ρ,hm,rfl,hv,hR⟩;simp only [List.mem_singleton,Out.val.injEq]at hm;obtain⟨rfl,rfl⟩:=hm;have e2:(cI.v (bF l k 0)).c=.int .i64 (bF l k 0):=by simp only [akE,V.c]
 cases hv;refine⟨_,ρ.fro,rfl,?_,hR.below,?_⟩;· rw [show(((k:Nat):Int)).toNat=k from Int.toNat_natCast k,e2];exact .int _ _
 · have hfro:(fun b=>if b<w.heap.size then fro b else ρ.fro b)=ρ.fro:=by
    funext b;split;· rename_i hb;exact(hR.fz0 b hb).symm
    · rfl
   rw [hfro];exact hR.fz
def K230:Con Tryz.prog gT:=Con.of 199 A230 cI S230 fn230
def CL:List (List Nat):=[[107,102,103,112,116],[97],[98,116,111,102,99,103],[110],[121],[],[99,107,110,121],[73,78],[88,89],[75],[89],[87,72,73],[75,87],[88,75],[72,73,78],[99,107],[99],[107]]
def OL:List Nat:=[75,87,72,73,88,78,89,98,97,115,112,107,116,111,102,103,99,100,110,121]
def EL:List Nat:=[75,87,72,73,88,78,89]
theorem con_ev:((List.range 256).all fun r=>axX (hasC EL r) (run Tryz.prog gT quiet 2000 (.call 144 [.str EL,.str [r]] H.start)))=true:=by kernel_rfl
theorem bj5:(CL.all fun c=>OL.all fun r=>axX (hasC c r) (run Tryz.prog gT quiet 2000 (.call 144 [.str c,.str [r]] H.start)))=true:=by kernel_rfl
def F181:List EVal→Option EVal
 | [.str c,.str [r]]=>if(c∈CL∧r∈OL)∨(c=EL∧r<256)then some (.bool (hasC c r))else none| _=>none
theorem fn181:FnT 144 F181:=by
 refine bqj (n:=2000) fun a u h=>?_;unfold F181 at h;split at h;rotate_left;· cases h
 rename_i c r;split at h;rotate_left;· cases h
 rename_i hx;cases h;rcases hx with hx|⟨rfl,hx⟩;· exact⟨_,rfl,List.all_eq_true.1 (List.all_eq_true.1 bj5 c hx.1) r hx.2⟩
 · exact⟨_,rfl,List.all_eq_true.1 con_ev r (List.mem_range.2 hx)⟩
def azy:Row (List Nat×List Nat×Unit):=Row.cons cS (Row.cons cS Row.nil)
def zQ (x:List Nat×List Nat×Unit):Option Bool:=match x.2.1 with
 | [r]=>if(x.1∈CL∧r∈OL)∨(x.1=EL∧r<256)then some (hasC x.1 r)else none| _=>none
def K181:Con Tryz.prog gT:=Con.of 144 azy cB zQ (Fn.weak fn181 fun a v h=>by
 obtain⟨⟨c,t,_⟩,r,rfl,hs,rfl⟩:=jN h;have e:V.cs (azy.v (c,t,()))=[.str c,.str t]:=by show V.cs [V.str c,V.str t]=_;simp only [V.cs,V.c]
 rw [e];unfold zQ at hs;split at hs
 · rename_i r' ht;dsimp only at ht hs;subst ht;split at hs;· rename_i hx;cases hs;simp only [F181,if_pos hx,cB,V.c]
   · cases hs
 · cases hs)
end
end Go.Ev
namespace Go.Ev
open Go.RowKit Go.Proofs
set_option maxRecDepth 100000
set_option maxHeartbeats 4000000
set_option linter.unusedVariables false
noncomputable section
def Af231:=(Row.cons (akE .i32) Row.nil)
noncomputable def Tf231 (s:Int):Tr Bool Empty noS cB.v:=(.i (decide (0≤s)) (.i (decide (s<55296)) (.r true) (.i (decide (57343<s)) (.i (decide (s≤1114111)) (.r true) (.r false)) (.r false))) (.i (decide (57343<s)) (.i (decide (s≤1114111)) (.r true) (.r false)) (.r false)))
def Ef231 (s:Int):=(Tf231 s).d noE
def bxP (x:Int×Unit):=Ef231 x.1
def wf231:Wk (Int×Unit) Bool Empty cB.v:=wk0 fun x=>Tf231 x.1
def Kf231:=aU 200 Tryz.func200 [] noZ ⟨17,noL,noL,noL⟩ 128 Af231 cB bxP wf231 (fun _=>0)
def Af214:=(Row.cons cS (Row.cons (akE .i32) Row.nil))
inductive axe where
 | k76 (a:Nat)
 | k10
 | k24 (a b:Int)
def uf214:axe→Nat
 | .k76 _=>76| .k10=>10| .k24 _ _=>24
noncomputable def akv (s:List Nat) (t:Int):axe→D
 | .k76 a=>mD [(175,.ptr 0 0)] 1 [(0,.iter s a)] 128 []| .k10=>mD [(0,.str s),(7,.str (cO t)),(8,.int .i64 (w6 ((((cO t).length:Nat):Int)-1))),(9,.int .i64 (w6 ((((cO t).length:Nat):Int)-1)))] 0 [] 128 []| .k24 a b=>mD [(0,.str s),(7,.str (cO t)),(8,.int .i64 (w6 ((((cO t).length:Nat):Int)-1))),(9,.int .i64 a),(12,.int .i64 b)] 0 [] 128 []
noncomputable def azl (s:List Nat) (t:Int):(l_:axe)→Tr Int axe (akv s t) cI.v
 | .k76 a=>(.i (Nat.blt a s.length) (.i ((((iP s a).1:Nat):Int)==65533) (.r ((a:Nat):Int)) (.g (.k76 (a+(iP s a).2)))) (.r (-1)))| .k10=>(.i (decide ((w6 ((((cO t).length:Nat):Int)-1))<((s.length:Nat):Int))) (.i (inR (w6 ((((cO t).length:Nat):Int)-1)) s.length) (.i (inR (w6 ((((cO t).length:Nat):Int)-1)) ((cO t).length)) (.i (!(((s.getD (w6 ((((cO t).length:Nat):Int)-1)).toNat 0:Nat):Int)==(((cO t).getD (w6 ((((cO t).length:Nat):Int)-1)).toNat 0:Nat):Int))) (.i (decide ((0:Int)≤(w6 ((w6 ((((cO t).length:Nat):Int)-1))+1)))&&decide ((w6 ((w6 ((((cO t).length:Nat):Int)-1))+1))≤((s.length:Nat):Int))) (.i (inR (w6 ((((cO t).length:Nat):Int)-1)) ((cO t).length)) (.c A230 S230 (((s.take s.length).drop ((w6 ((w6 ((((cO t).length:Nat):Int)-1))+1)).toNat)),(((cO t).getD (w6 ((((cO t).length:Nat):Int)-1)).toNat 0:Nat):Int),()) fun a=>(.i (decide (a<0)) (.r (-1)) (.g (.k24 (w6 ((w6 ((((cO t).length:Nat):Int)-1))+(w6 (a+1)))) 1)))) .n) .n) (.g (.k24 (w6 ((((cO t).length:Nat):Int)-1)) 1))) .n) .n) (.r (-1)))| .k24 a b=>(.i (decide (b<(((cO t).length:Nat):Int))) (.i (inR (w6 (a-b)) s.length) (.i (inR (w6 ((w6 ((((cO t).length:Nat):Int)-1))-b)) ((cO t).length)) (.i (!(((s.getD (w6 (a-b)).toNat 0:Nat):Int)==(((cO t).getD (w6 ((w6 ((((cO t).length:Nat):Int)-1))-b)).toNat 0:Nat):Int))) .n (.g (.k24 a (w6 (b+1))))) .n) .n) (.r (w6 (a-(w6 ((((cO t).length:Nat):Int)-1))))))
noncomputable def Tf214 (s:List Nat) (t:Int):Tr Int axe (akv s t) cI.v:=(.i (decide (0≤t)) (.i (decide (t<128)) (.c A230 S230 (s,(IntKind.u8.wrap t),()) fun a=>(.r a)) (.i (t==65533) (.g (.k76 0)) (.c Af231 bxP (t,()) fun b=>(.i (!b) (.r (-1)) (.g .k10))))) (.i (t==65533) (.g (.k76 0)) (.c Af231 bxP (t,()) fun d=>(.i (!d) (.r (-1)) (.g .k10)))))
def xL (s:List Nat) (t:Int):=Tr.lp (azl s t)
theorem bx6 {s:List Nat}{t:Int}{n:Nat}{l_:axe}:xL s t (n+1) l_=(azl s t l_).d (xL s t n):=rfl
def Ef214 (n:Nat) (s:List Nat) (t:Int):=(Tf214 s t).d (xL s t n)
def Sf214 (x:(List Nat)×Int×Unit):=Ef214 (x.1.length+64) x.1 x.2.1
def wf214:Wk ((List Nat)×Int×Unit) Int axe cI.v:=⟨fun x=>akv x.1 x.2.1,uf214,fun x=>Tf214 x.1 x.2.1,fun x=>azl x.1 x.2.1⟩
noncomputable def Kf214:=aU 192 Tryz.func192 [K230,Kf231] noZ ⟨187,(lookA [(38,⟨[175],[0],1,[],[],[],[]⟩),(5,⟨[0,7,8,9],[],0,[],[],[],[]⟩),(12,⟨[0,7,8,9,12],[],0,[],[],[],[]⟩)]),noL,noL⟩ 128 Af214 cI Sf214 wf214 (fun x=>x.1.length+64)
def Af190:=(Row.cons cS (Row.cons (akE .i32) Row.nil))
def Tf190 (s:List Nat) (t:Int):Tr Bool Empty noS cB.v:=(.c Af214 Sf214 (s,t,()) fun a=>(.r (decide (0≤a))))
def Ef190 (s:List Nat) (t:Int):=(Tf190 s t).d noE
def bxR (x:(List Nat)×Int×Unit):=Ef190 x.1 x.2.1
def wf190:Wk ((List Nat)×Int×Unit) Bool Empty cB.v:=wk0 fun x=>Tf190 x.1 x.2.1
def Kf190:=aU 183 Tryz.func183 [Kf214] noZ ⟨9,noL,noL,noL⟩ 128 Af190 cB bxR wf190 (fun _=>0)
def Af137:=(Row.cons (akE .i32) Row.nil)
def Tf137 (s:Int):Tr Bool Empty noS cB.v:=(.c Af190 bxR ([66,67,83,70,88,72],s,()) fun a=>(.r a))
def Ef137 (s:Int):=(Tf137 s).d noE
def Sf137 (x:Int×Unit):=Ef137 x.1
def wf137:Wk (Int×Unit) Bool Empty cB.v:=wk0 fun x=>Tf137 x.1
def Kf137:=aU 169 Tryz.func169 [Kf190] noZ ⟨5,noL,noL,noL⟩ 128 Af137 cB Sf137 wf137 (fun _=>0)
def Af87:=(Row.cons (Cod.list mv0 rMv) Row.nil)
def Wf87 (r:(List (Mv))):V:=.el (r.map rMv.v)
theorem hWf87 (r:(List (Mv))):(Wf87 r).c=((Cod.list mv0 rMv).v r).c:=by first|rfl|exact aS|(show EVal.tup (V.cs _)=EVal.tup (V.cs _);simp only [V.cs_map,List.map_cons,List.map_nil,aS];rfl)
inductive Lf87 where
 | k6 (a:Int)(b:List (Mv))
def uf87:Lf87→Nat
 | .k6 _ _=>6
def akZ (s:List (Mv)) (x1:Int) (x2:List (List V)):D:=mD [(0,(Cod.list mv0 rMv).v s),(3,.gl 0),(4,.int .i64 x1)] 0 [] 1 [(0,(x2,87))]
def bqi (s:List (Mv)):Lf87→D
 | .k6 a b=>akZ s a (b.map rMv.v)
noncomputable def aym (s:List (Mv)):(l_:Lf87)→Tr (List (Mv)) Lf87 (bqi s) Wf87
 | .k6 a c=>(.i (decide (a<((s.length:Nat):Int))) (.i (inR a s.length) (.i (Nat.ble (8*((s.getD a.toNat mv0).b).length) 1000000) (.i (Nat.ble (64*(((c.map rMv.v)).length+1)) 1000000) (.j (.k6 (w6 (a+1)) (c++[(s.getD a.toNat mv0)])) (akZ s (w6 (a+1)) ((c.map rMv.v)++[[.int .i64 (s.getD a.toNat mv0).f,.int .i64 (s.getD a.toNat mv0).t,.bool ((s.getD a.toNat mv0).o),.str ((s.getD a.toNat mv0).h),(Cod.list 0 a7).v ((s.getD a.toNat mv0).b)]])) ⟨by simp only [bqi,List.map_append,List.map_cons,List.map_nil];rfl⟩) .n) .n) .n) (.r c))
def Tf87 (s:List (Mv)):Tr (List (Mv)) Lf87 (bqi s) Wf87:=(.g (.k6 0 []))
def bx5 (s:List (Mv)):=Tr.lp (aym s)
theorem bqT {s:List (Mv)}{n:Nat}{l_:Lf87}:bx5 s (n+1) l_=(aym s l_).d (bx5 s n):=rfl
def Ef87 (n:Nat) (s:List (Mv)):=(Tf87 s).d (bx5 s n)
def Sf87 (x:(List (Mv))×Unit):=Ef87 (x.1.length+64) x.1
def wf87:Wk ((List (Mv))×Unit) (List (Mv)) Lf87 Wf87:=⟨fun x=>bqi x.1,uf87,fun x=>Tf87 x.1,fun x=>aym x.1⟩
def Kf87:=aU 63 Tryz.func63 [] noZ ⟨26,(lookA [(3,⟨[0,3,4],[],0,[(3,87)],[0],[],[]⟩)]),noL,noL⟩ 0 Af87 (Cod.list mv0 rMv) Sf87 wf87 (fun x=>x.1.length+64) hWf87
def Af33:=(Row.cons (Cod.agg rPl) Row.nil)
def Tf33 (s:Pl):Tr Pl Empty noS (Cod.agg rPl).v:=(.c Af87 Sf87 (s.m,()) fun a=>(.r (⟨s.p,s.e,s.l,a⟩:Pl)))
def Ef33 (s:Pl):=(Tf33 s).d noE
def Sf33 (x:Pl×Unit):=Ef33 x.1
def wf33:Wk (Pl×Unit) Pl Empty (Cod.agg rPl).v:=wk0 fun x=>Tf33 x.1
def Kf33:=aU 30 Tryz.func30 [Kf87] noZ ⟨8,noL,noL,noL⟩ 128 Af33 (Cod.agg rPl) Sf33 wf33 (fun _=>0)
end
end Go.Ev
namespace Go.Ev
open Go.RowKit Go.Proofs
set_option maxRecDepth 100000
set_option maxHeartbeats 4000000
set_option linter.unusedSimpArgs false
noncomputable section
theorem Con.less {f:FuncId}{α ρ:Type}{A:Row α}{Q:Cod ρ}{S S':α→Option ρ}(h:FnT f (fOf A Q S)) (hs:∀x r,S' x=some r→S x=some r):FnT f (fOf A Q S'):=Fn.weak h fun a v hv=>by obtain⟨x,r,rfl,h1,rfl⟩:=jN hv;unfold fOf;rw [A.rt,Option.bind_some,hs x r h1];rfl
theorem lo137:((List.range 128).all fun r=>Sf137 (((r:Nat):Int),())==some (isP r))=true:=by kernel_rfl
def nV:List Nat:=[66,67,83,70,88,72]
theorem ff214 (r:Int):xL nV r 70 (.k76 0)=some (-1):=by kernel_rfl
theorem ax2 {l:List Nat}{b:Nat}(h:∀x∈l,x<128) (h1:128≤b) (h2:b<256):S230 (l,((b:Nat):Int),())=some (-1):=by unfold S230;rw [if_pos (by constructor<;>simp<;>omega)];simp only [Int.toNat_natCast,bjC h h1]
theorem hi_k {r:Int}{k b:Nat}(hk:k=1∨k=2∨k=3) (hl:(cO r).length=k+1) (hb:(cO r).getD k 0=b) (h1:128≤b) (h2:b<256) (n:Nat):xL nV r (n+1) .k10=some (-1):=by
 rw [bx6];have w1:w6 ((((cO r).length:Nat):Int)-1)=(k:Int):=by rw [hl];unfold w6;rw [d7]<;>omega
 simp only [azl,TS,w1,Int.toNat_natCast,hb];simp only [hl];rcases hk with rfl|rfl|rfl
 · have c4:((((nV.getD 1 0:Nat)):Int)==(b:Int))=false:=by rw [show nV.getD 1 0=67 from rfl];exact beq_eq_false_iff_ne.2 (by omega)
   have c6:=ax2 (l:=(nV.take nV.length).drop (w6 (((1:Nat):Int)+1)).toNat) (by decide) h1 h2;simp only [show decide (((1:Nat):Int)<((nV.length:Nat):Int))=true by decide,show inR ((1:Nat):Int) nV.length=true by decide,show inR ((1:Nat):Int) (1+1)=true by decide,c4,show(decide ((0:Int)≤w6 (((1:Nat):Int)+1))&&decide (w6 (((1:Nat):Int)+1)≤((nV.length:Nat):Int)))=true by decide,c6,Bool.not_false,cond_true,obind_some];rfl
 · have c4:((((nV.getD 2 0:Nat)):Int)==(b:Int))=false:=by rw [show nV.getD 2 0=83 from rfl];exact beq_eq_false_iff_ne.2 (by omega)
   have c6:=ax2 (l:=(nV.take nV.length).drop (w6 (((2:Nat):Int)+1)).toNat) (by decide) h1 h2;simp only [show decide (((2:Nat):Int)<((nV.length:Nat):Int))=true by decide,show inR ((2:Nat):Int) nV.length=true by decide,show inR ((2:Nat):Int) (2+1)=true by decide,c4,show(decide ((0:Int)≤w6 (((2:Nat):Int)+1))&&decide (w6 (((2:Nat):Int)+1)≤((nV.length:Nat):Int)))=true by decide,c6,Bool.not_false,cond_true,obind_some];rfl
 · have c4:((((nV.getD 3 0:Nat)):Int)==(b:Int))=false:=by rw [show nV.getD 3 0=70 from rfl];exact beq_eq_false_iff_ne.2 (by omega)
   have c6:=ax2 (l:=(nV.take nV.length).drop (w6 (((3:Nat):Int)+1)).toNat) (by decide) h1 h2;simp only [show decide (((3:Nat):Int)<((nV.length:Nat):Int))=true by decide,show inR ((3:Nat):Int) nV.length=true by decide,show inR ((3:Nat):Int) (3+1)=true by decide,c4,show(decide ((0:Int)≤w6 (((3:Nat):Int)+1))&&decide (w6 (((3:Nat):Int)+1)≤((nV.length:Nat):Int)))=true by decide,c6,Bool.not_false,cond_true,obind_some];rfl
theorem hi214 {r:Int}(h:128≤r) (n:Nat):xL nV r (n+1) .k10=some (-1):=by
 rcases runeE_cases r h with⟨a,b,e,h1,h2⟩ | ⟨a,c,b,e,h1,h2⟩ | ⟨a,c,d,b,e,h1,h2⟩;· exact hi_k (k:=1) (b:=b) (by simp) (by rw [e];rfl) (by rw [e];rfl) h1 h2 n
 · exact hi_k (k:=2) (b:=b) (by simp) (by rw [e];rfl) (by rw [e];rfl) h1 h2 n
 · exact hi_k (k:=3) (b:=b) (by simp) (by rw [e];rfl) (by rw [e];rfl) h1 h2 n
theorem m214 {r:Int}(h:128≤r):Sf214 (nV,r,())=some (-1):=by
 show Ef214 (6+64) nV r=_;unfold Ef214 Tf214;have c0:decide (0≤r)=true:=by rw [decide_eq_true_eq];omega
 have c1:decide (r<128)=false:=by rw [decide_eq_false_iff_not];omega
 obtain⟨v,hv⟩:∃v,bxP (r,())=some v:=by show ∃v,Ef231 r=some v;unfold Ef231 Tf231;simp only [TS];cases decide (0≤r)<;>cases decide (r<55296)<;>cases decide (57343<r)<;>cases decide (r≤1114111)<;>exact⟨_,rfl⟩
 simp only [TS,c0,c1,cond_true,cond_false,hv,obind_some,ff214];have e:=hi214 h 69;cases r==65533 with
 | true=>rfl| false=>
   cases v with
   | false=>rfl| true=>exact e
theorem m137' {r:Int}(h:0≤r):Sf137 (r,())=some (isP r.toNat):=by
 obtain⟨k,rfl⟩:∃k:Nat,r=(k:Int):=⟨r.toNat,by omega⟩;rw [Int.toNat_natCast];by_cases hk:k<128;· exact eq_of_beq (List.all_eq_true.1 lo137 k (List.mem_range.2 hk))
 · have e:bxR (nV,((k:Nat):Int),())=some false:=by show Ef190 nV _=_;unfold Ef190 Tf190;simp only [TS,m214 (show(128:Int)≤(k:Int) by omega),obind_some];rfl
   rw [n8 (by omega)];show Ef137 _=_;unfold Ef137 Tf137;simp only [TS];show aX (bxR (nV,((k:Nat):Int),())) _=_;rw [e];rfl
def A137:Row (Int×Unit):=Row.cons (akE .i32) Row.nil
def S137 (x:Int×Unit):Option Bool:=if 0≤x.1 then some (isP x.1.toNat)else none
def K137:Con Tryz.prog gT:=Con.of 169 A137 cB S137 (Con.less Kf137.ok fun x r h=>by
 unfold S137 at h;split at h;· rename_i h0;exact(m137' h0).trans h
 · cases h)
def lC (l:List Mv):Bool:=decide (l.length≤300)&&l.all fun m=>decide (m.b.length≤1000)
theorem cp_j (s:List Mv) (h:lC s=true):∀j n k,k+j=s.length→bx5 s (n+j+1) (.k6 (k:Int) (s.take k))=some s:=by
 simp only [lC,Bool.and_eq_true,decide_eq_true_eq,List.all_eq_true]at h;intro j;induction j with
 | zero=>
   intro n k hk;have c1:decide ((k:Int)<((s.length:Nat):Int))=false:=by rw [decide_eq_false_iff_not];omega
   rw [bqT];simp only [aym,TS,c1,cond_false];rw [List.take_of_length_le (by omega)]
 | succ j ih=>
   intro n k hk;have hlt:k<s.length:=by omega
   obtain⟨x,hx⟩:∃x,s[k]? = some x:=⟨s[k],List.getElem?_eq_getElem hlt⟩;have hm:=h.2 x (List.mem_of_getElem? hx);have c1:decide ((k:Int)<((s.length:Nat):Int))=true:=by rw [decide_eq_true_eq];omega
   have c2:inR (k:Int) s.length=true:=by simp [inR];omega
   have hg:s.getD k mv0=x:=by rw [List.getD_eq_getElem?_getD,hx];rfl
   have c3:Nat.ble (8*x.b.length) 1000000=true:=by rw [Nat.ble_eq];omega
   have c4:Nat.ble (64*((s.take k).length+1)) 1000000=true:=by rw [Nat.ble_eq,List.length_take];omega
   have w4:w6 ((k:Int)+1)=((k+1:Nat):Int):=by unfold w6;rw [d7]<;>omega
   have ht:s.take k++[x]=s.take (k+1):=by rw [List.take_add_one,hx];rfl
   rw [bqT];simp only [aym,TS,c1,c2,Int.toNat_natCast,hg,c3,List.length_map,c4,cond_true,w4,ht];rw [show n+(j+1)=n+j+1 by omega];exact ih n (k+1) (by omega)
theorem m87 (s:List Mv) (h:lC s=true):Sf87 (s,())=some s:=by show Ef87 (s.length+64) s=_;unfold Ef87 Tf87;simp only [TS];have e:=cp_j s h s.length 63 0 (by omega);rw [show 63+s.length+1=s.length+64 by omega,List.take_zero]at e;exact e
theorem m33 (p:Pl) (h:lC p.m=true):Sf33 (p,())=some p:=by show Ef33 p=_;unfold Ef33 Tf33;simp only [TS,m87 p.m h,obind_some]
end
end Go.Ev
namespace Go.Ev
open Go.RowKit Go.Proofs
set_option maxRecDepth 100000
set_option maxHeartbeats 4000000
set_option linter.unusedVariables false
noncomputable section
def Af139:=(Row.cons (akE .i32) Row.nil)
def Tf139 (s:Int):Tr Bool Empty noS cB.v:=(.i (s==88) (.r true) (.r (s==72)))
def Ef139 (s:Int):=(Tf139 s).d noE
def bxT (x:Int×Unit):=Ef139 x.1
def wf139:Wk (Int×Unit) Bool Empty cB.v:=wk0 fun x=>Tf139 x.1
def Kf139:=aU 170 Tryz.func170 [] noZ ⟨9,noL,noL,noL⟩ 128 Af139 cB bxT wf139 (fun _=>0)
def Af193:=(Row.cons cS Row.nil)
inductive avr where
 | k8 (a:Nat)
def uf193:avr→Nat
 | .k8 _=>8
def akx (s:List Nat):avr→D
 | .k8 a=>mD [(0,.str s),(9,.ptr 0 0)] 1 [(0,.iter s a)] 128 []
noncomputable def xI (s:List Nat):(l_:avr)→Tr Int avr (akx s) cI.v
 | .k8 a=>(.i (Nat.blt a s.length) (.c A137 S137 ((((iP s a).1:Nat):Int),()) fun b=>(.i (!b) (.r 14) (.c Af139 bxT ((((iP s a).1:Nat):Int),()) fun d=>(.i d (.i (decide (((a:Nat):Int)<(w6 (((s.length:Nat):Int)-1)))) (.r 14) (.g (.k8 (a+(iP s a).2)))) (.g (.k8 (a+(iP s a).2))))))) (.r 0))
def Tf193 (s:List Nat):Tr Int avr (akx s) cI.v:=(.i (decide (24<((s.length:Nat):Int))) (.r 5) (.g (.k8 0)))
def Ef193J (s:List Nat):=Tr.lp (xI s)
def Ef193 (n:Nat) (s:List Nat):=(Tf193 s).d (Ef193J s n)
def Sf193 (x:(List Nat)×Unit):=Ef193 (x.1.length+64) x.1
def wf193:Wk ((List Nat)×Unit) Int avr cI.v:=⟨fun x=>akx x.1,uf193,fun x=>Tf193 x.1,fun x=>xI x.1⟩
def Kf193:=aU 137 Tryz.func137 [K137,Kf139] noZ ⟨28,(lookA [(4,⟨[0,9],[0],1,[],[],[],[]⟩)]),noL,noL⟩ 128 Af193 cI Sf193 wf193 (fun x=>x.1.length+64)
def Af215:=(Row.cons cS Row.nil)
def Tf215 (s:List Nat):Tr Bool Empty noS cB.v:=(.i (((s.length:Nat):Int)==1) (.c azy zQ ([75,87,72,73,88,78,89],s,()) fun a=>(.r a)) (.r false))
def Ef215 (s:List Nat):=(Tf215 s).d noE
def Sf215 (x:(List Nat)×Unit):=Ef215 x.1
def wf215:Wk ((List Nat)×Unit) Bool Empty cB.v:=wk0 fun x=>Tf215 x.1
def Kf215:=aU 171 Tryz.func171 [K181] noZ ⟨10,noL,noL,noL⟩ 128 Af215 cB Sf215 wf215 (fun _=>0)
def Af194:=(Row.cons cS Row.nil)
def Tf194 (s:List Nat):Tr Int Empty noS cI.v:=(.i (!decide (s=[])) (.c Af215 Sf215 (s,()) fun a=>(.i (!a) (.r 13) (.r 0))) (.r 0))
def Ef194 (s:List Nat):=(Tf194 s).d noE
def Sf194 (x:(List Nat)×Unit):=Ef194 x.1
def wf194:Wk ((List Nat)×Unit) Int Empty cI.v:=wk0 fun x=>Tf194 x.1
def Kf194:=aU 138 Tryz.func138 [Kf215] noZ ⟨10,noL,noL,noL⟩ 128 Af194 cI Sf194 wf194 (fun _=>0)
def avz:=(Row.cons cI (Row.cons cI (Row.cons cI Row.nil)))
def Tf136 (s:Int) (t:Int) (u:Int):Tr Bool Empty noS cB.v:=(.i (decide (t≤s)) (.r (decide (s≤u))) (.r false))
def Ef136 (s:Int) (t:Int) (u:Int):=(Tf136 s t u).d noE
def ax1 (x:Int×Int×Int×Unit):=Ef136 x.1 x.2.1 x.2.2.1
def wf136:Wk (Int×Int×Int×Unit) Bool Empty cB.v:=wk0 fun x=>Tf136 x.1 x.2.1 x.2.2.1
def bxX:=aU 173 Tryz.func173 [] noZ ⟨15,noL,noL,noL⟩ 128 avz cB ax1 wf136 (fun _=>0)
def Af234:=(Row.cons cI Row.nil)
def Tf234 (s:Int):Tr Int Empty noS cI.v:=(.c avz ax1 (s,0,3,()) fun a=>(.i (!a) (.r 3) (.r 0)))
def Ef234 (s:Int):=(Tf234 s).d noE
def Sf234 (x:Int×Unit):=Ef234 x.1
def wf234:Wk (Int×Unit) Int Empty cI.v:=wk0 fun x=>Tf234 x.1
def Kf234:=aU 184 Tryz.func184 [bxX] noZ ⟨6,noL,noL,noL⟩ 128 Af234 cI Sf234 wf234 (fun _=>0)
def Af235:=(Row.cons cI Row.nil)
def Tf235 (s:Int):Tr Int Empty noS cI.v:=(.c avz ax1 (s,1,4,()) fun a=>(.i (!a) (.r 3) (.r 0)))
def Ef235 (s:Int):=(Tf235 s).d noE
def Sf235 (x:Int×Unit):=Ef235 x.1
def wf235:Wk (Int×Unit) Int Empty cI.v:=wk0 fun x=>Tf235 x.1
def Kf235:=aU 185 Tryz.func185 [bxX] noZ ⟨6,noL,noL,noL⟩ 128 Af235 cI Sf235 wf235 (fun _=>0)
def Af247:=(Row.cons cB (Row.cons cS Row.nil))
inductive avo where
 | k4_0
 | k4_1
 | k4_2
 | k4_3
 | k4_4
 | k4_5
 | k4_6
 | k4_7
 | k4_8
 | k4_9
 | k4_10
 | k4_11
 | k4_12
 | k4_13
 | k4_14
def uf247:avo→Nat
 | .k4_0=>4| .k4_1=>4| .k4_2=>4| .k4_3=>4| .k4_4=>4| .k4_5=>4| .k4_6=>4| .k4_7=>4| .k4_8=>4| .k4_9=>4| .k4_10=>4| .k4_11=>4| .k4_12=>4| .k4_13=>4| .k4_14=>4
noncomputable abbrev akth1 (s:Bool) (t:List Nat)(zp0:Int):D:=mD [(0,.bool s),(1,.str t),(4,.ptr 0 0),(8,.agg gW),(9,.int .i64 zp0)] 1 [(0,.row ⟨[.bool false,.str [],.int .i64 0,.int .i64 0],210,false⟩)] 128 []
noncomputable def akt (s:Bool) (t:List Nat):avo→D
 | .k4_0=>akth1 s t 0| .k4_1=>akth1 s t 1| .k4_2=>akth1 s t 2| .k4_3=>akth1 s t 3| .k4_4=>akth1 s t 4| .k4_5=>akth1 s t 5| .k4_6=>akth1 s t 6| .k4_7=>akth1 s t 7| .k4_8=>akth1 s t 8| .k4_9=>akth1 s t 9| .k4_10=>akth1 s t 10| .k4_11=>akth1 s t 11| .k4_12=>akth1 s t 12| .k4_13=>akth1 s t 13| .k4_14=>akth1 s t 14
noncomputable def azk (s:Bool) (t:List Nat):(l_:avo)→Tr ((Wy)×(Bool)×Unit) avo (akt s t) (Cod.tup (Row.cons (Cod.agg rWay) (Row.cons cB Row.nil))).v
 | .k4_0=>(.i (false==s) (.i (decide ([98]=t)) (.r ((⟨false,[98],3,3⟩:Wy),true,())) (.g .k4_1)) (.g .k4_1))| .k4_1=>(.i (false==s) (.i (decide ([97]=t)) (.r ((⟨false,[97],3,3⟩:Wy),true,())) (.g .k4_2)) (.g .k4_2))| .k4_2=>(.i (false==s) (.i (decide ([115]=t)) (.r ((⟨false,[115],0,3⟩:Wy),true,())) (.g .k4_3)) (.g .k4_3))| .k4_3=>(.i (false==s) (.i (decide ([112]=t)) (.r ((⟨false,[112],3,3⟩:Wy),true,())) (.g .k4_4)) (.g .k4_4))| .k4_4=>(.i (false==s) (.i (decide ([107]=t)) (.r ((⟨false,[107],0,3⟩:Wy),true,())) (.g .k4_5)) (.g .k4_5))| .k4_5=>(.i (false==s) (.i (decide ([116]=t)) (.r ((⟨false,[116],3,3⟩:Wy),true,())) (.g .k4_6)) (.g .k4_6))| .k4_6=>(.i (false==s) (.i (decide ([111]=t)) (.r ((⟨false,[111],3,3⟩:Wy),true,())) (.g .k4_7)) (.g .k4_7))| .k4_7=>(.i (true==s) (.i (decide ([102]=t)) (.r ((⟨true,[102],2,2⟩:Wy),true,())) (.g .k4_8)) (.g .k4_8))| .k4_8=>(.i (true==s) (.i (decide ([103]=t)) (.r ((⟨true,[103],3,4⟩:Wy),true,())) (.g .k4_9)) (.g .k4_9))| .k4_9=>(.i (true==s) (.i (decide ([99]=t)) (.r ((⟨true,[99],2,0⟩:Wy),true,())) (.g .k4_10)) (.g .k4_10))| .k4_10=>(.i (true==s) (.i (decide ([100]=t)) (.r ((⟨true,[100],0,1⟩:Wy),true,())) (.g .k4_11)) (.g .k4_11))| .k4_11=>(.i (true==s) (.i (decide ([107]=t)) (.r ((⟨true,[107],2,0⟩:Wy),true,())) (.g .k4_12)) (.g .k4_12))| .k4_12=>(.i (true==s) (.i (decide ([110]=t)) (.r ((⟨true,[110],2,3⟩:Wy),true,())) (.g .k4_13)) (.g .k4_13))| .k4_13=>(.i (true==s) (.i (decide ([121]=t)) (.r ((⟨true,[121],2,0⟩:Wy),true,())) (.g .k4_14)) (.g .k4_14))| .k4_14=>(.r ((⟨false,[],0,0⟩:Wy),false,()))
def Tf247 (s:Bool) (t:List Nat):Tr ((Wy)×(Bool)×Unit) avo (akt s t) (Cod.tup (Row.cons (Cod.agg rWay) (Row.cons cB Row.nil))).v:=(.g .k4_0)
def Ef247J (s:Bool) (t:List Nat):=Tr.lp (azk s t)
def Ef247 (n:Nat) (s:Bool) (t:List Nat):=(Tf247 s t).d (Ef247J s t n)
def Sf247 (x:Bool×(List Nat)×Unit):=Ef247 (x.2.1.length+64) x.1 x.2.1
def wf247:Wk (Bool×(List Nat)×Unit) ((Wy)×(Bool)×Unit) avo (Cod.tup (Row.cons (Cod.agg rWay) (Row.cons cB Row.nil))).v:=⟨fun x=>akt x.1 x.2.1,uf247,fun x=>Tf247 x.1 x.2.1,fun x=>azk x.1 x.2.1⟩
def Kf247:=aU 193 Tryz.func193 [] noZ ⟨25,(lookA [(2,⟨[0,1,4,8,9],[0],1,[],[],[],[]⟩)]),noL,noL⟩ 128 Af247 (Cod.tup (Row.cons (Cod.agg rWay) (Row.cons cB Row.nil))) Sf247 wf247 (fun x=>x.2.1.length+64)
def Af248:=(Row.cons cI (Row.cons cI (Row.cons cI Row.nil)))
def Tf248 (s:Int) (t:Int) (u:Int):Tr Bool Empty noS cB.v:=(.i (s==1) (.r (u==t)) (.i (s==2) (.r (u==(w6 (t+1)))) (.i (s==3) (.r (decide (t<u))) (.i (s==4) (.r (decide (t≤u))) (.r false)))))
def Ef248 (s:Int) (t:Int) (u:Int):=(Tf248 s t u).d noE
def bxO (x:Int×Int×Int×Unit):=Ef248 x.1 x.2.1 x.2.2.1
def wf248:Wk (Int×Int×Int×Unit) Bool Empty cB.v:=wk0 fun x=>Tf248 x.1 x.2.1 x.2.2.1
def Kf248:=aU 194 Tryz.func194 [] noZ ⟨29,noL,noL,noL⟩ 128 Af248 cB bxO wf248 (fun _=>0)
def Af236:=(Row.cons (Cod.agg rMv) Row.nil)
noncomputable def Tf236 (s:Mv):Tr Int Empty noS cI.v:=(.c Af247 Sf247 (s.o,s.h,()) fun a=>(.i (!a.2.1) (.r 13) (.i (s.f==0) (.c Af248 bxO (a.1.r,s.f,s.t,()) fun d=>(.i (!d) (.r 15) (.r 0))) (.c Af248 bxO (a.1.b,s.f,s.t,()) fun e=>(.i (!e) (.r 15) (.r 0))))))
def Ef236 (s:Mv):=(Tf236 s).d noE
def Sf236 (x:Mv×Unit):=Ef236 x.1
def wf236:Wk (Mv×Unit) Int Empty cI.v:=wk0 fun x=>Tf236 x.1
def Kf236:=aU 186 Tryz.func186 [Kf247,Kf248] noZ ⟨30,noL,noL,noL⟩ 128 Af236 cI Sf236 wf236 (fun _=>0)
def Af237:=(Row.cons (Cod.agg rMv) Row.nil)
inductive avp where
 | k8 (a:Int)
def uf237:avp→Nat
 | .k8 _=>8
def aku (s:Mv):avp→D
 | .k8 a=>mD [(1,.ptr 0 0),(20,(Cod.list 0 a7).v s.b),(21,.int .i64 ((s.b.length:Nat):Int)),(22,.int .i64 a)] 1 [(0,.row ⟨(rMv.v s),87,false⟩)] 128 []
noncomputable def ajK (s:Mv):(l_:avp)→Tr Int avp (aku s) cI.v
 | .k8 a=>(.i (decide (a<((s.b.length:Nat):Int))) (.i (inR a s.b.length) (.c avz ax1 ((s.b.getD a.toNat 0),1,9,()) fun d=>(.i (!d) (.r 16) (.i (decide (0<a)) (.i (inR (w6 (a-1)) s.b.length) (.i ((s.b.getD a.toNat 0)==(s.b.getD (w6 (a-1)).toNat 0)) (.r 16) (.g (.k8 (w6 (a+1))))) .n) (.g (.k8 (w6 (a+1))))))) .n) (.r 0))
def Tf237 (s:Mv):Tr Int avp (aku s) cI.v:=(.i (decide (9<((s.b.length:Nat):Int))) (.r 16) (.i s.o (.i (((s.b.length:Nat):Int)==0) (.r 16) (.g (.k8 0))) (.g (.k8 0))))
def Ef237J (s:Mv):=Tr.lp (ajK s)
def Ef237 (n:Nat) (s:Mv):=(Tf237 s).d (Ef237J s n)
def Sf237 (x:Mv×Unit):=Ef237 64 x.1
def wf237:Wk (Mv×Unit) Int avp cI.v:=⟨fun x=>aku x.1,uf237,fun x=>Tf237 x.1,fun x=>ajK x.1⟩
def Kf237:=aU 187 Tryz.func187 [bxX] noZ ⟨45,(lookA [(4,⟨[1,20,21,22],[0],1,[],[],[],[]⟩)]),noL,noL⟩ 128 Af237 cI Sf237 wf237 (fun x=>64)
def Af192:=(Row.cons (Cod.list 0 a7) Row.nil)
inductive avs where
 | k4 (a:Int)
def uf192:avs→Nat
 | .k4 _=>4
def aky (s:List (Int)):avs→D
 | .k4 a=>mD [(5,(Cod.list 0 a7).v s),(6,.int .i64 ((s.length:Nat):Int)),(7,.int .i64 a)] 0 [] 128 []
def ajM (s:List (Int)):(l_:avs)→Tr Int avs (aky s) cI.v
 | .k4 a=>(.i (decide (a<((s.length:Nat):Int))) (.i (inR a s.length) (.i (!((s.getD a.toNat 0)==0)) (.r (s.getD a.toNat 0)) (.g (.k4 (w6 (a+1))))) .n) (.r 0))
def Tf192 (s:List (Int)):Tr Int avs (aky s) cI.v:=(.g (.k4 0))
def Ef192J (s:List (Int)):=Tr.lp (ajM s)
def Ef192 (n:Nat) (s:List (Int)):=(Tf192 s).d (Ef192J s n)
def bxQ (x:(List (Int))×Unit):=Ef192 (x.1.length+64) x.1
def wf192:Wk ((List (Int))×Unit) Int avs cI.v:=⟨fun x=>aky x.1,uf192,fun x=>Tf192 x.1,fun x=>ajM x.1⟩
def Kf192:=aU 136 Tryz.func136 [] noZ ⟨15,(lookA [(2,⟨[5,6,7],[],0,[],[],[],[]⟩)]),noL,noL⟩ 128 Af192 cI bxQ wf192 (fun x=>x.1.length+64)
def Af216:=(Row.cons (Cod.agg rMv) Row.nil)
noncomputable def Tf216 (s:Mv):Tr Int Empty noS cI.v:=(.c Af234 Sf234 (s.f,()) fun a=>(.c Af235 Sf235 (s.t,()) fun b=>(.c Af236 Sf236 (s,()) fun d=>(.c Af237 Sf237 (s,()) fun e=>(.c Af192 bxQ ([a,b,d,e],()) fun g=>(.r g))))))
def Ef216 (s:Mv):=(Tf216 s).d noE
def Sf216 (x:Mv×Unit):=Ef216 x.1
def wf216:Wk (Mv×Unit) Int Empty cI.v:=wk0 fun x=>Tf216 x.1
def Kf216:=aU 172 Tryz.func172 [Kf192,Kf234,Kf235,Kf236,Kf237] noZ ⟨15,noL,noL,noL⟩ 128 Af216 cI Sf216 wf216 (fun _=>0)
def Af195:=(Row.cons (Cod.list mv0 rMv) Row.nil)
inductive avq where
 | k8 (a:Int)
def uf195:avq→Nat
 | .k8 _=>8
def akw (s:List (Mv)):avq→D
 | .k8 a=>mD [(0,(Cod.list mv0 rMv).v s),(9,(Cod.list mv0 rMv).v s),(10,.int .i64 ((s.length:Nat):Int)),(11,.int .i64 a)] 0 [] 128 []
noncomputable def ajL (s:List (Mv)):(l_:avq)→Tr Int avq (akw s) cI.v
 | .k8 a=>(.i (decide (a<((s.length:Nat):Int))) (.i (inR a s.length) (.c Af216 Sf216 ((s.getD a.toNat mv0),()) fun b=>(.i (!(b==0)) (.r b) (.i (decide (0<a)) (.i (inR (w6 (a-1)) s.length) (.i (decide ((s.getD (w6 (a-1)).toNat mv0).f≤(s.getD a.toNat mv0).f)) (.r 11) (.g (.k8 (w6 (a+1))))) .n) (.g (.k8 (w6 (a+1))))))) .n) (.r 0))
def Tf195 (s:List (Mv)):Tr Int avq (akw s) cI.v:=(.i (decide (4<((s.length:Nat):Int))) (.r 5) (.g (.k8 0)))
def Ef195J (s:List (Mv)):=Tr.lp (ajL s)
def Ef195 (n:Nat) (s:List (Mv)):=(Tf195 s).d (Ef195J s n)
def Sf195 (x:(List (Mv))×Unit):=Ef195 (x.1.length+64) x.1
def wf195:Wk ((List (Mv))×Unit) Int avq cI.v:=⟨fun x=>akw x.1,uf195,fun x=>Tf195 x.1,fun x=>ajL x.1⟩
def Kf195:=aU 139 Tryz.func139 [Kf216] noZ ⟨35,(lookA [(4,⟨[0,9,10,11],[],0,[],[],[],[]⟩)]),noL,noL⟩ 128 Af195 cI Sf195 wf195 (fun x=>x.1.length+64)
def Af142:=(Row.cons (Cod.agg rPl) Row.nil)
def Tf142 (s:Pl):Tr Int Empty noS cI.v:=(.c Af193 Sf193 (s.p,()) fun a=>(.c Af194 Sf194 (s.e,()) fun b=>(.c Af195 Sf195 (s.m,()) fun d=>(.c Af192 bxQ ([a,b,d],()) fun f=>(.r f)))))
def Ef142 (s:Pl):=(Tf142 s).d noE
def Sf142 (x:Pl×Unit):=Ef142 x.1
def wf142:Wk (Pl×Unit) Int Empty cI.v:=wk0 fun x=>Tf142 x.1
def Kf142:=aU 89 Tryz.func89 [Kf192,Kf193,Kf194,Kf195] noZ ⟨14,noL,noL,noL⟩ 128 Af142 cI Sf142 wf142 (fun _=>0)
def bzR:=(Row.cons cS (Row.cons cU8 Row.nil))
inductive Lf83 where
 | k4 (a:Int)
def uf83:Lf83→Nat
 | .k4 _=>4
def sLf83 (s:List Nat) (t:Int):Lf83→D
 | .k4 a=>mD [(0,.str s),(1,.int .u8 t),(5,.int .i64 a)] 0 [] 128 []
noncomputable def ayn (s:List Nat) (t:Int):(l_:Lf83)→Tr Bool Lf83 (sLf83 s t) cB.v
 | .k4 a=>(.i (decide (a<((s.length:Nat):Int))) (.i (inR a s.length) (.i (((s.getD a.toNat 0:Nat):Int)==t) (.r true) (.g (.k4 (w6 (a+1))))) .n) (.r false))
def Tf83 (s:List Nat) (t:Int):Tr Bool Lf83 (sLf83 s t) cB.v:=(.g (.k4 0))
def Ef83J (s:List Nat) (t:Int):=Tr.lp (ayn s t)
def Ef83 (n:Nat) (s:List Nat) (t:Int):=(Tf83 s t).d (Ef83J s t n)
def akI (x:(List Nat)×Int×Unit):=Ef83 (x.1.length+64) x.1 x.2.1
def wf83:Wk ((List Nat)×Int×Unit) Bool Lf83 cB.v:=⟨fun x=>sLf83 x.1 x.2.1,uf83,fun x=>Tf83 x.1 x.2.1,fun x=>ayn x.1 x.2.1⟩
def Kf83:=aU 115 Tryz.func115 [] noZ ⟨17,(lookA [(2,⟨[0,1,5],[],0,[],[],[],[]⟩)]),noL,noL⟩ 128 bzR cB akI wf83 (fun x=>x.1.length+64)
def Af114:=(Row.cons cS Row.nil)
inductive avv where
 | k8 (a:Int)
def uf114:avv→Nat
 | .k8 _=>8
def awB (s:List Nat):avv→D
 | .k8 a=>mD [(0,.str s),(3,.int .i64 a)] 0 [] 128 []
noncomputable def ajP (s:List Nat):(l_:avv)→Tr Int avv (awB s) cI.v
 | .k8 a=>(.i (decide (a<((s.length:Nat):Int))) (.i (inR a s.length) (.c bzR akI ([66,67,83,70,88,72],((s.getD a.toNat 0:Nat):Int),()) fun b=>(.i (!b) (.r 14) (.i (inR a s.length) (.c bzR akI ([88,72],((s.getD a.toNat 0:Nat):Int),()) fun d=>(.i d (.i (decide (a<(w6 (((s.length:Nat):Int)-1)))) (.r 14) (.g (.k8 (w6 (a+1))))) (.g (.k8 (w6 (a+1)))))) .n))) .n) (.r 0))
def Tf114 (s:List Nat):Tr Int avv (awB s) cI.v:=(.i (decide (24<((s.length:Nat):Int))) (.r 5) (.g (.k8 0)))
def Ef114J (s:List Nat):=Tr.lp (ajP s)
def Ef114 (n:Nat) (s:List Nat):=(Tf114 s).d (Ef114J s n)
def Sf114 (x:(List Nat)×Unit):=Ef114 (x.1.length+64) x.1
def wf114:Wk ((List Nat)×Unit) Int avv cI.v:=⟨fun x=>awB x.1,uf114,fun x=>Tf114 x.1,fun x=>ajP x.1⟩
def Kf114:=aU 64 Tryz.func64 [Kf83] noZ ⟨31,(lookA [(4,⟨[0,3],[],0,[],[],[],[]⟩)]),noL,noL⟩ 128 Af114 cI Sf114 wf114 (fun x=>x.1.length+64)
def Af115:=(Row.cons cS Row.nil)
noncomputable def Tf115 (s:List Nat):Tr Bool Empty noS cB.v:=(.i (decide (s=[])) (.r true) (.i (((s.length:Nat):Int)==1) (.i (inR 0 s.length) (.c bzR akI ([75,87,72,73,88,78,89],((s.getD 0 0:Nat):Int),()) fun a=>(.r a)) .n) (.r false)))
def Ef115 (s:List Nat):=(Tf115 s).d noE
def Sf115 (x:(List Nat)×Unit):=Ef115 x.1
def wf115:Wk ((List Nat)×Unit) Bool Empty cB.v:=wk0 fun x=>Tf115 x.1
def Kf115:=aU 65 Tryz.func65 [Kf83] noZ ⟨15,noL,noL,noL⟩ 128 Af115 cB Sf115 wf115 (fun _=>0)
def Af64:=(Row.cons cI (Row.cons cI (Row.cons cI Row.nil)))
def Tf64 (s:Int) (t:Int) (u:Int):Tr Int Empty noS cI.v:=(.i (decide (s<t)) (.r 3) (.i (decide (u<s)) (.r 3) (.r 0)))
def Ef64 (s:Int) (t:Int) (u:Int):=(Tf64 s t u).d noE
def Sf64 (x:Int×Int×Int×Unit):=Ef64 x.1 x.2.1 x.2.2.1
def wf64:Wk (Int×Int×Int×Unit) Int Empty cI.v:=wk0 fun x=>Tf64 x.1 x.2.1 x.2.2.1
def Kf64:=aU 117 Tryz.func117 [] noZ ⟨15,noL,noL,noL⟩ 128 Af64 cI Sf64 wf64 (fun _=>0)
def Af65:=(Row.cons (Cod.list 0 a7) Row.nil)
inductive Lf65 where
 | k4 (a:Int)
def uf65:Lf65→Nat
 | .k4 _=>4
def sLf65 (s:List (Int)):Lf65→D
 | .k4 a=>mD [(0,(Cod.list 0 a7).v s),(3,.int .i64 a)] 0 [] 128 []
noncomputable def ayo (s:List (Int)):(l_:Lf65)→Tr Int Lf65 (sLf65 s) cI.v
 | .k4 a=>(.i (decide (a<((s.length:Nat):Int))) (.i (inR a s.length) (.i (!((s.getD a.toNat 0)==0)) (.i (inR a s.length) (.r (s.getD a.toNat 0)) .n) (.g (.k4 (w6 (a+1))))) .n) (.r 0))
def Tf65 (s:List (Int)):Tr Int Lf65 (sLf65 s) cI.v:=(.g (.k4 0))
def Ef65J (s:List (Int)):=Tr.lp (ayo s)
def Ef65 (n:Nat) (s:List (Int)):=(Tf65 s).d (Ef65J s n)
def Sf65 (x:(List (Int))×Unit):=Ef65 (x.1.length+64) x.1
def wf65:Wk ((List (Int))×Unit) Int Lf65 cI.v:=⟨fun x=>sLf65 x.1,uf65,fun x=>Tf65 x.1,fun x=>ayo x.1⟩
def Kf65:=aU 116 Tryz.func116 [] noZ ⟨19,(lookA [(2,⟨[0,3],[],0,[],[],[],[]⟩)]),noL,noL⟩ 128 Af65 cI Sf65 wf65 (fun x=>x.1.length+64)
def Af172:=(Row.cons cS (Row.cons cB Row.nil))
noncomputable def Tf172 (s:List Nat) (t:Bool):Tr Bool Empty noS cB.v:=(.i (!(((s.length:Nat):Int)==1)) (.r false) (.i t (.i (inR 0 s.length) (.c bzR akI ([102,103,99,100,107,110,121],((s.getD 0 0:Nat):Int),()) fun a=>(.r a)) .n) (.i (inR 0 s.length) (.c bzR akI ([98,97,115,112,107,116,111],((s.getD 0 0:Nat):Int),()) fun b=>(.r b)) .n)))
def Ef172 (s:List Nat) (t:Bool):=(Tf172 s t).d noE
def Sf172 (x:(List Nat)×Bool×Unit):=Ef172 x.1 x.2.1
def wf172:Wk ((List Nat)×Bool×Unit) Bool Empty cB.v:=wk0 fun x=>Tf172 x.1 x.2.1
def Kf172:=aU 118 Tryz.func118 [Kf83] noZ ⟨15,noL,noL,noL⟩ 128 Af172 cB Sf172 wf172 (fun _=>0)
def Af173:=(Row.cons (Cod.agg rMv) Row.nil)
noncomputable def Tf173 (s:Mv):Tr Bool Empty noS cB.v:=(.i (!s.o) (.i (decide (s.f<s.t)) (.i (decide (0<s.f)) (.r true) (.i (inR 0 s.h.length) (.c bzR akI ([115,107],((s.h.getD 0 0:Nat):Int),()) fun a=>(.r (!a))) .n)) (.r false)) (.i (decide (s.h=[100])) (.i (decide (0<s.f)) (.r (s.t==s.f)) (.r false)) (.i (decide (s.h=[103])) (.r (decide (s.f≤s.t))) (.i (decide (s.h=[110])) (.i (decide (s.f<s.t)) (.i (decide (0<s.f)) (.r true) (.r (s.t==1))) (.r false)) (.i (decide (s.h=[102])) (.r (s.t==(w6 (s.f+1)))) (.i (s.f==0) (.r (s.t==1)) (.r false)))))))
def Ef173 (s:Mv):=(Tf173 s).d noE
def Sf173 (x:Mv×Unit):=Ef173 x.1
def wf173:Wk (Mv×Unit) Bool Empty cB.v:=wk0 fun x=>Tf173 x.1
def Kf173:=aU 119 Tryz.func119 [Kf83] noZ ⟨77,noL,noL,noL⟩ 128 Af173 cB Sf173 wf173 (fun _=>0)
def Af174:=(Row.cons (Cod.agg rMv) Row.nil)
inductive avt where
 | k8 (a:Int)
def uf174:avt→Nat
 | .k8 _=>8
def akz (s:Mv):avt→D
 | .k8 a=>mD [(1,.ptr 0 0),(3,.int .i64 a)] 1 [(0,.row ⟨(rMv.v s),87,false⟩)] 128 []
noncomputable def ajN (s:Mv):(l_:avt)→Tr Int avt (akz s) cI.v
 | .k8 a=>(.i (decide (a<((s.b.length:Nat):Int))) (.i (inR a s.b.length) (.i (decide ((s.b.getD a.toNat 0)<1)) (.r 16) (.i (inR a s.b.length) (.i (decide (9<(s.b.getD a.toNat 0))) (.r 16) (.i (decide (0<a)) (.i (inR a s.b.length) (.i (inR (w6 (a-1)) s.b.length) (.i ((s.b.getD a.toNat 0)==(s.b.getD (w6 (a-1)).toNat 0)) (.r 16) (.g (.k8 (w6 (a+1))))) .n) .n) (.g (.k8 (w6 (a+1)))))) .n)) .n) (.r 0))
def Tf174 (s:Mv):Tr Int avt (akz s) cI.v:=(.i (decide (9<((s.b.length:Nat):Int))) (.r 16) (.i s.o (.i (((s.b.length:Nat):Int)==0) (.r 16) (.g (.k8 0))) (.g (.k8 0))))
def Ef174J (s:Mv):=Tr.lp (ajN s)
def Ef174 (n:Nat) (s:Mv):=(Tf174 s).d (Ef174J s n)
def Sf174 (x:Mv×Unit):=Ef174 64 x.1
def wf174:Wk (Mv×Unit) Int avt cI.v:=⟨fun x=>akz x.1,uf174,fun x=>Tf174 x.1,fun x=>ajN x.1⟩
def Kf174:=aU 120 Tryz.func120 [] noZ ⟨57,(lookA [(4,⟨[1,3],[0],1,[],[],[],[]⟩)]),noL,noL⟩ 128 Af174 cI Sf174 wf174 (fun x=>64)
def Af116:=(Row.cons (Cod.agg rMv) Row.nil)
noncomputable def Tf116 (s:Mv):Tr Int Empty noS cI.v:=(.c Af64 Sf64 (s.f,0,3,()) fun a=>(.c Af64 Sf64 (s.t,1,4,()) fun b=>(.c Af65 Sf65 ([a,b],()) fun d=>(.i (!(d==0)) (.r d) (.c Af172 Sf172 (s.h,s.o,()) fun e=>(.i (!e) (.r 13) (.c Af173 Sf173 (s,()) fun g=>(.i (!g) (.r 15) (.c Af174 Sf174 (s,()) fun j=>(.r j))))))))))
def Ef116 (s:Mv):=(Tf116 s).d noE
def Sf116 (x:Mv×Unit):=Ef116 x.1
def wf116:Wk (Mv×Unit) Int Empty cI.v:=wk0 fun x=>Tf116 x.1
def Kf116:=aU 66 Tryz.func66 [Kf64,Kf65,Kf172,Kf173,Kf174] noZ ⟨26,noL,noL,noL⟩ 128 Af116 cI Sf116 wf116 (fun _=>0)
def Af58:=(Row.cons (Cod.agg rPl) Row.nil)
inductive Lf58 where
 | k18 (a:Int)
def uf58:Lf58→Nat
 | .k18 _=>18
def sLf58 (s:Pl):Lf58→D
 | .k18 a=>mD [(1,.ptr 0 0),(4,.int .i64 a)] 1 [(0,.row ⟨(rPl.v s),48,false⟩)] 128 []
noncomputable def avf (s:Pl):(l_:Lf58)→Tr Int Lf58 (sLf58 s) cI.v
 | .k18 a=>(.i (decide (a<((s.m.length:Nat):Int))) (.i (inR a s.m.length) (.c Af116 Sf116 ((s.m.getD a.toNat mv0),()) fun b=>(.i (!(b==0)) (.r b) (.i (decide (0<a)) (.i (inR a s.m.length) (.i (inR (w6 (a-1)) s.m.length) (.i (decide ((s.m.getD (w6 (a-1)).toNat mv0).f≤(s.m.getD a.toNat mv0).f)) (.r 11) (.g (.k18 (w6 (a+1))))) .n) .n) (.g (.k18 (w6 (a+1))))))) .n) (.r 0))
def Tf58 (s:Pl):Tr Int Lf58 (sLf58 s) cI.v:=(.c Af114 Sf114 (s.p,()) fun a=>(.i (!(a==0)) (.r a) (.c Af115 Sf115 (s.e,()) fun b=>(.i (!b) (.r 13) (.i (decide (4<((s.m.length:Nat):Int))) (.r 5) (.g (.k18 0)))))))
def Ef58J (s:Pl):=Tr.lp (avf s)
def Ef58 (n:Nat) (s:Pl):=(Tf58 s).d (Ef58J s n)
def Sf58 (x:Pl×Unit):=Ef58 (x.1.m.length+64) x.1
def wf58:Wk (Pl×Unit) Int Lf58 cI.v:=⟨fun x=>sLf58 x.1,uf58,fun x=>Tf58 x.1,fun x=>avf x.1⟩
def Kf58:=aU 32 Tryz.func32 [Kf114,Kf115,Kf116] noZ ⟨54,(lookA [(9,⟨[1,4],[0],1,[],[],[],[]⟩)]),noL,noL⟩ 128 Af58 cI Sf58 wf58 (fun x=>x.1.m.length+64)
def kA:=(Row.cons cI (Row.cons cI (Row.cons cI Row.nil)))
def Tf118 (s:Int) (t:Int) (u:Int):Tr Bool Empty noS cB.v:=(.i (decide (t≤s)) (.r (decide (s≤u))) (.r false))
def Ef118 (s:Int) (t:Int) (u:Int):=(Tf118 s t u).d noE
def jV (x:Int×Int×Int×Unit):=Ef118 x.1 x.2.1 x.2.2.1
def wf118:Wk (Int×Int×Int×Unit) Bool Empty cB.v:=wk0 fun x=>Tf118 x.1 x.2.1 x.2.2.1
def bxY:=aU 83 Tryz.func83 [] noZ ⟨15,noL,noL,noL⟩ 128 kA cB jV wf118 (fun _=>0)
def Af69:=(Row.cons (Cod.agg rSt) Row.nil)
def Tf69 (s:St):Tr Int Empty noS cI.v:=(.c kA jV (s.inn,1,30,()) fun a=>(.i (!a) (.r 3) (.r 0)))
def Ef69 (s:St):=(Tf69 s).d noE
def Sf69 (x:St×Unit):=Ef69 x.1
def wf69:Wk (St×Unit) Int Empty cI.v:=wk0 fun x=>Tf69 x.1
def Kf69:=aU 45 Tryz.func45 [bxY] noZ ⟨7,noL,noL,noL⟩ 128 Af69 cI Sf69 wf69 (fun _=>0)
def Af62:=(Row.cons (Cod.agg rSt) Row.nil)
def Tf62 (s:St):Tr Int Empty noS cI.v:=(.i (s.half==0) (.r s.n0) (.i (s.half==1) (.r s.n1) .n))
def Ef62 (s:St):=(Tf62 s).d noE
def Sf62 (x:St×Unit):=Ef62 x.1
def wf62:Wk (St×Unit) Int Empty cI.v:=wk0 fun x=>Tf62 x.1
def Kf62:=aU 87 Tryz.func87 [] noZ ⟨8,noL,noL,noL⟩ 128 Af62 cI Sf62 wf62 (fun _=>0)
def Af146:=(Row.cons cI Row.nil)
def Tf146 (s:Int):Tr Int Empty noS cI.v:=(.r (w6 ((s.tmod 9)+1)))
def Ef146 (s:Int):=(Tf146 s).d noE
def Sf146 (x:Int×Unit):=Ef146 x.1
def wf146:Wk (Int×Unit) Int Empty cI.v:=wk0 fun x=>Tf146 x.1
def Kf146:=aU 111 Tryz.func111 [] noZ ⟨6,noL,noL,noL⟩ 128 Af146 cI Sf146 wf146 (fun _=>0)
def bxa:=(Row.cons cI (Row.cons cI Row.nil))
inductive avu where
 | k6 (a b:Int)
def uf121:avu→Nat
 | .k6 _ _=>6
def awA (s:Int) (t:Int):avu→D
 | .k6 a b=>mD [(1,.int .i64 t),(5,.int .i64 a),(8,.int .i64 b)] 0 [] 128 []
def ajO (s:Int) (t:Int):(l_:avu)→Tr Int avu (awA s t) cI.v
 | .k6 a b=>(.i (decide (b<9)) (.c Af146 Sf146 (a,()) fun d=>(.i (d==t) (.r b) (.g (.k6 d (w6 (b+1)))))) (.r 9))
def Tf121 (s:Int) (t:Int):Tr Int avu (awA s t) cI.v:=(.g (.k6 s 0))
def Ef121J (s:Int) (t:Int):=Tr.lp (ajO s t)
def Ef121 (n:Nat) (s:Int) (t:Int):=(Tf121 s t).d (Ef121J s t n)
def avk (x:Int×Int×Unit):=Ef121 64 x.1 x.2.1
def wf121:Wk (Int×Int×Unit) Int avu cI.v:=⟨fun x=>awA x.1 x.2.1,uf121,fun x=>Tf121 x.1 x.2.1,fun x=>ajO x.1 x.2.1⟩
def Kf121:=aU 86 Tryz.func86 [Kf146] noZ ⟨18,(lookA [(3,⟨[1,5,8],[],0,[],[],[],[]⟩)]),noL,noL⟩ 128 bxa cI avk wf121 (fun x=>64)
def Af73:=(Row.cons (Cod.agg rSt) Row.nil)
inductive Lf73 where
 | k6 (a b c:Int)
def uf73:Lf73→Nat
 | .k6 _ _ _=>6
def sLf73 (s:St):Lf73→D
 | .k6 a b c=>mD [(1,.ptr 0 0),(3,.int .i64 b),(4,.int .i64 c),(9,.agg [.int .i64 s.b1,.int .i64 s.b2,.int .i64 s.b3]),(10,.int .i64 a)] 1 [(0,.row ⟨(rSt.v s),54,false⟩)] 128 []
noncomputable def oK (s:St):(l_:Lf73)→Tr Int Lf73 (sLf73 s) cI.v
 | .k6 a b d=>(.i (decide (a<3)) (.i (a==0) (.i (s.b1==0) (.g (.k6 (w6 (a+1)) b d)) (.c Af62 Sf62 (s,()) fun e=>(.c bxa avk (s.b1,e,()) fun f=>(.c kA jV (f,b,(w6 (b+s.outs)),()) fun h=>(.i (!h) (.r 11) (.i (decide (f≤d)) (.r 11) (.g (.k6 (w6 (a+1)) (w6 (b+1)) f)))))))) (.i (a==1) (.i (s.b2==0) (.g (.k6 (w6 (a+1)) b d)) (.c Af62 Sf62 (s,()) fun j=>(.c bxa avk (s.b2,j,()) fun k=>(.c kA jV (k,b,(w6 (b+s.outs)),()) fun l=>(.i (!l) (.r 11) (.i (decide (k≤d)) (.r 11) (.g (.k6 (w6 (a+1)) (w6 (b+1)) k)))))))) (.i (a==2) (.i (s.b3==0) (.g (.k6 (w6 (a+1)) b d)) (.c Af62 Sf62 (s,()) fun m=>(.c bxa avk (s.b3,m,()) fun o=>(.c kA jV (o,b,(w6 (b+s.outs)),()) fun p=>(.i (!p) (.r 11) (.i (decide (o≤d)) (.r 11) (.g (.k6 (w6 (a+1)) (w6 (b+1)) o)))))))) .n))) (.r 0))
def Tf73 (s:St):Tr Int Lf73 (sLf73 s) cI.v:=(.g (.k6 0 0 (-1)))
def Ef73J (s:St):=Tr.lp (oK s)
def Ef73 (n:Nat) (s:St):=(Tf73 s).d (Ef73J s n)
def Sf73 (x:St×Unit):=Ef73 64 x.1
def wf73:Wk (St×Unit) Int Lf73 cI.v:=⟨fun x=>sLf73 x.1,uf73,fun x=>Tf73 x.1,fun x=>oK x.1⟩
def Kf73:=aU 49 Tryz.func49 [Kf62,bxY,Kf121] noZ ⟨36,(lookA [(3,⟨[1,3,4,9,10],[0],1,[],[],[],[]⟩)]),noL,noL⟩ 128 Af73 cI Sf73 wf73 (fun x=>64)
def Af175:=(Row.cons (Cod.agg rSt) Row.nil)
def Tf175 (s:St):Tr St Empty noS (Cod.agg rSt).v:=(.r (⟨s.inn,s.half,0,0,0,0,0,0,s.n0,s.n1,s.c0,s.c1,s.over⟩:St))
def Ef175 (s:St):=(Tf175 s).d noE
def Sf175 (x:St×Unit):=Ef175 x.1
def wf175:Wk (St×Unit) St Empty (Cod.agg rSt).v:=wk0 fun x=>Tf175 x.1
def Kf175:=aU 133 Tryz.func133 [] noZ ⟨9,noL,noL,noL⟩ 128 Af175 (Cod.agg rSt) Sf175 wf175 (fun _=>0)
def Af177:=(Row.cons (Cod.agg rSt) Row.nil)
def Tf177 (s:St):Tr Bool Empty noS cB.v:=(.r (decide (s.c0<s.c1)))
def Ef177 (s:St):=(Tf177 s).d noE
def bxS (x:St×Unit):=Ef177 x.1
def wf177:Wk (St×Unit) Bool Empty cB.v:=wk0 fun x=>Tf177 x.1
def Kf177:=aU 135 Tryz.func135 [] noZ ⟨10,noL,noL,noL⟩ 128 Af177 cB bxS wf177 (fun _=>0)
def Af176:=(Row.cons (Cod.agg rSt) Row.nil)
def Tf176 (s:St):Tr Bool Empty noS cB.v:=(.i (decide (s.inn<9)) (.r false) (.c Af177 bxS (s,()) fun a=>(.i a (.r true) (.i (s.half==1) (.i (!(s.c0==s.c1)) (.r true) (.r (s.inn==30))) (.r false)))))
def Ef176 (s:St):=(Tf176 s).d noE
def Sf176 (x:St×Unit):=Ef176 x.1
def wf176:Wk (St×Unit) Bool Empty cB.v:=wk0 fun x=>Tf176 x.1
def Kf176:=aU 134 Tryz.func134 [Kf177] noZ ⟨27,noL,noL,noL⟩ 128 Af176 cB Sf176 wf176 (fun _=>0)
def Af119:=(Row.cons (Cod.agg rSt) Row.nil)
noncomputable def Tf119 (s:St):Tr Bool Empty noS cB.v:=(.c Af175 Sf175 (s,()) fun a=>(.i ((s.inn==a.inn)&&((s.half==a.half)&&((s.outs==a.outs)&&((s.balls==a.balls)&&((s.strikes==a.strikes)&&((s.b1==a.b1)&&((s.b2==a.b2)&&((s.b3==a.b3)&&((s.n0==a.n0)&&((s.n1==a.n1)&&((s.c0==a.c0)&&((s.c1==a.c1)&&((s.over==a.over)&&true))))))))))))) (.c Af176 Sf176 (s,()) fun b=>(.r b)) (.r false)))
def Ef119 (s:St):=(Tf119 s).d noE
def Sf119 (x:St×Unit):=Ef119 x.1
def wf119:Wk (St×Unit) Bool Empty cB.v:=wk0 fun x=>Tf119 x.1
def Kf119:=aU 84 Tryz.func84 [Kf175,Kf176] noZ ⟨11,noL,noL,noL⟩ 128 Af119 cB Sf119 wf119 (fun _=>0)
def Af120:=(Row.cons (Cod.agg rSt) Row.nil)
def Tf120 (s:St):Tr Bool Empty noS cB.v:=(.i (decide (9≤s.inn)) (.i (s.half==1) (.c Af177 bxS (s,()) fun a=>(.r a)) (.r false)) (.r false))
def Ef120 (s:St):=(Tf120 s).d noE
def bxU (x:St×Unit):=Ef120 x.1
def wf120:Wk (St×Unit) Bool Empty cB.v:=wk0 fun x=>Tf120 x.1
def Kf120:=aU 85 Tryz.func85 [Kf177] noZ ⟨15,noL,noL,noL⟩ 128 Af120 cB bxU wf120 (fun _=>0)
def Af72:=(Row.cons (Cod.agg rSt) Row.nil)
noncomputable def Tf72 (s:St):Tr Int Empty noS cI.v:=(.i s.over (.c Af119 Sf119 (s,()) fun a=>(.i (!a) (.r 19) (.i (!s.over) (.c Af120 bxU (s,()) fun b=>(.i b (.r 19) (.r 0))) (.r 0)))) (.i (!s.over) (.c Af120 bxU (s,()) fun d=>(.i d (.r 19) (.r 0))) (.r 0)))
def Ef72 (s:St):=(Tf72 s).d noE
def Sf72 (x:St×Unit):=Ef72 x.1
def wf72:Wk (St×Unit) Int Empty cI.v:=wk0 fun x=>Tf72 x.1
def Kf72:=aU 48 Tryz.func48 [Kf119,Kf120] noZ ⟨19,noL,noL,noL⟩ 128 Af72 cI Sf72 wf72 (fun _=>0)
def Af71:=(Row.cons (Cod.agg rSt) Row.nil)
inductive Lf71 where
 | k6 (a:Bool)(b:Int)
 | k16 (a:Bool)(b:Int)
def uf71:Lf71→Nat
 | .k6 _ _=>6| .k16 _ _=>16
noncomputable def sLf71 (s:St):Lf71→D
 | .k6 a b=>mD [(1,.ptr 0 0),(3,.bool a),(21,.agg [.int .i64 s.b1,.int .i64 s.b2,.int .i64 s.b3]),(22,.int .i64 b)] 1 [(0,.row ⟨(rSt.v s),54,false⟩)] 128 []| .k16 a b=>mD [(1,.ptr 0 0),(3,.bool a),(31,.int .i64 b)] 1 [(0,.row ⟨(rSt.v s),54,false⟩)] 128 []
noncomputable def bjo (s:St):(l_:Lf71)→Tr Int Lf71 (sLf71 s) cI.v
 | .k6 a b=>(.i (decide (b<3)) (.i (b==0) (.i a (.c kA jV (s.b1,0,9,()) fun d=>(.g (.k6 d (w6 (b+1))))) (.g (.k6 false (w6 (b+1))))) (.i (b==1) (.i a (.c kA jV (s.b2,0,9,()) fun e=>(.g (.k6 e (w6 (b+1))))) (.g (.k6 false (w6 (b+1))))) (.i (b==2) (.i a (.c kA jV (s.b3,0,9,()) fun f=>(.g (.k6 f (w6 (b+1))))) (.g (.k6 false (w6 (b+1))))) .n))) (.g (.k16 a 0)))| .k16 a b=>(.i (decide (b<2)) (.i a (.i (b==0) (.c kA jV (s.n0,1,9,()) fun d=>(.i d (.i (b==0) (.c kA jV (s.c0,0,9999,()) fun e=>(.g (.k16 e (w6 (b+1))))) (.i (b==1) (.c kA jV (s.c1,0,9999,()) fun f=>(.g (.k16 f (w6 (b+1))))) .n)) (.g (.k16 false (w6 (b+1)))))) (.i (b==1) (.c kA jV (s.n1,1,9,()) fun h=>(.i h (.i (b==0) (.c kA jV (s.c0,0,9999,()) fun j=>(.g (.k16 j (w6 (b+1))))) (.i (b==1) (.c kA jV (s.c1,0,9999,()) fun k=>(.g (.k16 k (w6 (b+1))))) .n)) (.g (.k16 false (w6 (b+1)))))) .n)) (.g (.k16 false (w6 (b+1))))) (.i (!a) (.r 3) (.r 0)))
noncomputable def Tf71 (s:St):Tr Int Lf71 (sLf71 s) cI.v:=(.c kA jV (s.outs,0,2,()) fun a=>(.i a (.c kA jV (s.balls,0,3,()) fun b=>(.i b (.c kA jV (s.strikes,0,2,()) fun d=>(.g (.k6 d 0))) (.g (.k6 false 0)))) (.g (.k6 false 0))))
def Ef71J (s:St):=Tr.lp (bjo s)
def Ef71 (n:Nat) (s:St):=(Tf71 s).d (Ef71J s n)
def Sf71 (x:St×Unit):=Ef71 64 x.1
def wf71:Wk (St×Unit) Int Lf71 cI.v:=⟨fun x=>sLf71 x.1,uf71,fun x=>Tf71 x.1,fun x=>bjo x.1⟩
def Kf71:=aU 47 Tryz.func47 [bxY] noZ ⟨52,(lookA [(3,⟨[1,3,21,22],[0],1,[],[],[],[]⟩),(8,⟨[1,3,31],[0],1,[],[],[],[]⟩)]),noL,noL⟩ 128 Af71 cI Sf71 wf71 (fun x=>64)
def Af70:=(Row.cons (Cod.agg rSt) Row.nil)
def Tf70 (s:St):Tr Int Empty noS cI.v:=(.c kA jV (s.half,0,1,()) fun a=>(.i (!a) (.r 17) (.r 0)))
def Ef70 (s:St):=(Tf70 s).d noE
def Sf70 (x:St×Unit):=Ef70 x.1
def wf70:Wk (St×Unit) Int Empty cI.v:=wk0 fun x=>Tf70 x.1
def Kf70:=aU 46 Tryz.func46 [bxY] noZ ⟨7,noL,noL,noL⟩ 128 Af70 cI Sf70 wf70 (fun _=>0)
noncomputable def fP:=(Row.cons (Cod.agg rSt) (Row.cons (Cod.lit (Els.cons (Row.cons (Cod.fn0 45) Row.nil) (Els.cons (Row.cons (Cod.fn0 46) Row.nil) (Els.cons (Row.cons (Cod.fn0 47) Row.nil) (Els.cons (Row.cons (Cod.fn0 48) Row.nil) (Els.cons (Row.cons (Cod.fn0 49) Row.nil) Els.nil)))))) Row.nil))
inductive aY where
 | k4 (a:Int)
def mK:aY→Nat
 | .k4 _=>4
noncomputable def cT (s:St) (t:((Unit)×Unit)×((Unit)×Unit)×((Unit)×Unit)×((Unit)×Unit)×((Unit)×Unit)×Unit):aY→D
 | .k4 a=>mD [(2,.ptr 0 0),(8,.el [[.raw (.func 45 [])],[.raw (.func 46 [])],[.raw (.func 47 [])],[.raw (.func 48 [])],[.raw (.func 49 [])]]),(9,.int .i64 5),(10,.int .i64 a)] 1 [(0,.row ⟨(rSt.v s),54,false⟩)] 128 []
noncomputable def aK (s:St) (t:((Unit)×Unit)×((Unit)×Unit)×((Unit)×Unit)×((Unit)×Unit)×((Unit)×Unit)×Unit):(l_:aY)→Tr Int aY (cT s t) cI.v
 | .k4 a=>(.i (decide (a<5)) (.i (a==0) (.c Af69 Sf69 (s,()) fun b=>(.i (!(b==0)) (.r b) (.g (.k4 (w6 (a+1)))))) (.i (a==1) (.c Af70 Sf70 (s,()) fun d=>(.i (!(d==0)) (.r d) (.g (.k4 (w6 (a+1)))))) (.i (a==2) (.c Af71 Sf71 (s,()) fun e=>(.i (!(e==0)) (.r e) (.g (.k4 (w6 (a+1)))))) (.i (a==3) (.c Af72 Sf72 (s,()) fun f=>(.i (!(f==0)) (.r f) (.g (.k4 (w6 (a+1)))))) (.i (a==4) (.c Af73 Sf73 (s,()) fun h=>(.i (!(h==0)) (.r h) (.g (.k4 (w6 (a+1)))))) .n))))) (.r 0))
def dB (s:St) (t:((Unit)×Unit)×((Unit)×Unit)×((Unit)×Unit)×((Unit)×Unit)×((Unit)×Unit)×Unit):Tr Int aY (cT s t) cI.v:=(.g (.k4 0))
def lJ (s:St) (t:((Unit)×Unit)×((Unit)×Unit)×((Unit)×Unit)×((Unit)×Unit)×((Unit)×Unit)×Unit):=Tr.lp (aK s t)
def dD (n:Nat) (s:St) (t:((Unit)×Unit)×((Unit)×Unit)×((Unit)×Unit)×((Unit)×Unit)×((Unit)×Unit)×Unit):=(dB s t).d (lJ s t n)
def dC (x:St×(((Unit)×Unit)×((Unit)×Unit)×((Unit)×Unit)×((Unit)×Unit)×((Unit)×Unit)×Unit)×Unit):=dD 64 x.1 x.2.1
def mJ:Wk (St×(((Unit)×Unit)×((Unit)×Unit)×((Unit)×Unit)×((Unit)×Unit)×((Unit)×Unit)×Unit)×Unit) Int aY cI.v:=⟨fun x=>cT x.1 x.2.1,mK,fun x=>dB x.1 x.2.1,fun x=>aK x.1 x.2.1⟩
def mL:=aU 44 Tryz.func44 [Kf69,Kf70,Kf71,Kf72,Kf73] noZ ⟨21,(lookA [(2,⟨[2,8,9,10],[0],1,[],[],[],[]⟩)]),noL,noL⟩ 128 fP cI dC mJ (fun x=>64)
def Af18:=(Row.cons (Cod.agg rSt) Row.nil)
def Tf18 (s:St):Tr Int Empty noS cI.v:=(.c fP dC (s,(((),()),((),()),((),()),((),()),((),()),()),()) fun a=>(.r a))
def Ef18 (s:St):=(Tf18 s).d noE
def Sf18 (x:St×Unit):=Ef18 x.1
def wf18:Wk (St×Unit) Int Empty cI.v:=wk0 fun x=>Tf18 x.1
def Kf18:=aU 19 Tryz.func19 [mL] noZ ⟨6,noL,noL,noL⟩ 128 Af18 cI Sf18 wf18 (fun _=>0)
def Af29:=(Row.cons cI (Row.cons cI (Row.cons cS Row.nil)))
inductive Lf29 where
 | k14 (a:Int)(b:Bool)(c d:Int)
def uf29:Lf29→Nat
 | .k14 _ _ _ _=>14
def sLf29 (s:Int) (t:Int) (u:List Nat):Lf29→D
 | .k14 a b c d=>mD [(0,.int .i64 a),(1,.int .i64 d),(2,.str u),(6,.ptr 0 0),(9,.bool b),(10,.int .i64 c)] 1 [(0,.row ⟨[.int .i64 0,.int .i64 0],52,false⟩)] 128 []
noncomputable def bjp (s:Int) (t:Int) (u:List Nat):(l_:Lf29)→Tr (((Int)×(Int)×Unit)×(Int)×(Int)×Unit) Lf29 (sLf29 s t u) (Cod.tup (Row.cons (Cod.agg (Row.cons cI (Row.cons cI Row.nil))) (Row.cons cI (Row.cons cI Row.nil)))).v
 | .k14 a b d e=>(.i (decide (d<((u.length:Nat):Int))) (.i (inR d u.length) (.c bzR akI ([66,67,83,70,88,72],((u.getD d.toNat 0:Nat):Int),()) fun f=>(.i (!f) (.r ((0,0,()),d,14,())) (.i b (.r ((0,0,()),d,14,())) (.i (inR d u.length) (.i (((u.getD d.toNat 0:Nat):Int)==66) (.i b (.g (.k14 (w6 (a+1)) true (w6 (d+1)) e)) (.i ((w6 (a+1))==4) (.g (.k14 (w6 (a+1)) true (w6 (d+1)) e)) (.g (.k14 (w6 (a+1)) (e==3) (w6 (d+1)) e)))) (.i (((u.getD d.toNat 0:Nat):Int)==67) (.i b (.g (.k14 a true (w6 (d+1)) (w6 (e+1)))) (.i (a==4) (.g (.k14 a true (w6 (d+1)) (w6 (e+1)))) (.g (.k14 a ((w6 (e+1))==3) (w6 (d+1)) (w6 (e+1)))))) (.i (((u.getD d.toNat 0:Nat):Int)==83) (.i b (.g (.k14 a true (w6 (d+1)) (w6 (e+1)))) (.i (a==4) (.g (.k14 a true (w6 (d+1)) (w6 (e+1)))) (.g (.k14 a ((w6 (e+1))==3) (w6 (d+1)) (w6 (e+1)))))) (.i (((u.getD d.toNat 0:Nat):Int)==70) (.i b (.g (.k14 a true (w6 (d+1)) (bif(decide (e<(bif(decide (2<(w6 (e+1))))then 2 else(w6 (e+1)))))then(bif(decide (2<(w6 (e+1))))then 2 else(w6 (e+1)))else e))) (.i (a==4) (.g (.k14 a true (w6 (d+1)) (bif(decide (e<(bif(decide (2<(w6 (e+1))))then 2 else(w6 (e+1)))))then(bif(decide (2<(w6 (e+1))))then 2 else(w6 (e+1)))else e))) (.g (.k14 a ((bif(decide (e<(bif(decide (2<(w6 (e+1))))then 2 else(w6 (e+1)))))then(bif(decide (2<(w6 (e+1))))then 2 else(w6 (e+1)))else e)==3) (w6 (d+1)) (bif(decide (e<(bif(decide (2<(w6 (e+1))))then 2 else(w6 (e+1)))))then(bif(decide (2<(w6 (e+1))))then 2 else(w6 (e+1)))else e))))) (.g (.k14 a true (w6 (d+1)) e)))))) .n)))) .n) (.r ((a,e,()),0,0,())))
noncomputable def Tf29 (s:Int) (t:Int) (u:List Nat):Tr (((Int)×(Int)×Unit)×(Int)×(Int)×Unit) Lf29 (sLf29 s t u) (Cod.tup (Row.cons (Cod.agg (Row.cons cI (Row.cons cI Row.nil))) (Row.cons cI (Row.cons cI Row.nil)))).v:=(.i (decide (s<0)) (.r ((0,0,()),0,3,())) (.i (decide (3<s)) (.r ((0,0,()),0,3,())) (.i (decide (t<0)) (.r ((0,0,()),0,3,())) (.i (decide (2<t)) (.r ((0,0,()),0,3,())) (.i (decide (24<((u.length:Nat):Int))) (.r ((0,0,()),0,5,())) (.g (.k14 s false 0 t)))))))
def Ef29J (s:Int) (t:Int) (u:List Nat):=Tr.lp (bjp s t u)
def Ef29 (n:Nat) (s:Int) (t:Int) (u:List Nat):=(Tf29 s t u).d (Ef29J s t u n)
def Sf29 (x:Int×Int×(List Nat)×Unit):=Ef29 (x.2.2.1.length+64) x.1 x.2.1 x.2.2.1
noncomputable def wf29:Wk (Int×Int×(List Nat)×Unit) (((Int)×(Int)×Unit)×(Int)×(Int)×Unit) Lf29 (Cod.tup (Row.cons (Cod.agg (Row.cons cI (Row.cons cI Row.nil))) (Row.cons cI (Row.cons cI Row.nil)))).v:=⟨fun x=>sLf29 x.1 x.2.1 x.2.2.1,uf29,fun x=>Tf29 x.1 x.2.1 x.2.2.1,fun x=>bjp x.1 x.2.1 x.2.2.1⟩
noncomputable def Kf29:=aU 122 Tryz.func122 [Kf83] noZ ⟨77,(lookA [(7,⟨[0,1,2,6,9,10],[0],1,[],[],[],[]⟩)]),noL,noL⟩ 128 Af29 (Cod.tup (Row.cons (Cod.agg (Row.cons cI (Row.cons cI Row.nil))) (Row.cons cI (Row.cons cI Row.nil)))) Sf29 wf29 (fun x=>x.2.2.1.length+64)
def Af138:=(Row.cons (Cod.agg (Row.cons cI (Row.cons cI Row.nil))) (Row.cons (akE .i32) Row.nil))
noncomputable def Tf138 (s:(Int)×(Int)×Unit) (t:Int):Tr ((Int)×(Int)×Unit) Empty noS (Cod.agg (Row.cons cI (Row.cons cI Row.nil))).v:=(.i (t==66) (.r ((w6 (s.1+1)),s.2.1,())) (.i (t==67) (.r (s.1,(w6 (s.2.1+1)),())) (.i (t==83) (.r (s.1,(w6 (s.2.1+1)),())) (.i (t==70) (.i (decide (s.2.1<2)) (.r (s.1,(w6 (s.2.1+1)),())) (.r (s.1,s.2.1,()))) (.r (s.1,s.2.1,()))))))
def Ef138 (s:(Int)×(Int)×Unit) (t:Int):=(Tf138 s t).d noE
def Sf138 (x:((Int)×(Int)×Unit)×Int×Unit):=Ef138 x.1 x.2.1
def wf138:Wk (((Int)×(Int)×Unit)×Int×Unit) ((Int)×(Int)×Unit) Empty (Cod.agg (Row.cons cI (Row.cons cI Row.nil))).v:=wk0 fun x=>Tf138 x.1 x.2.1
def Kf138:=aU 174 Tryz.func174 [] noZ ⟨29,noL,noL,noL⟩ 128 Af138 (Cod.agg (Row.cons cI (Row.cons cI Row.nil))) Sf138 wf138 (fun _=>0)
def Af81:=(Row.cons cI (Row.cons cI (Row.cons cS Row.nil)))
inductive Lf81 where
 | k14 (a:Bool)(b c:Int)(d:Nat)
def uf81:Lf81→Nat
 | .k14 _ _ _ _=>14
noncomputable def sLf81 (s:Int) (t:Int) (u:List Nat):Lf81→D
 | .k14 a b c d=>mD [(6,.ptr 0 0),(9,.ptr 1 0),(10,.bool a),(30,.ptr 2 0)] 3 [(0,.row ⟨[.int .i64 0,.int .i64 0],52,false⟩),(1,.row ⟨[.int .i64 b,.int .i64 c],52,false⟩),(2,.iter u d)] 128 []
noncomputable def bjn (s:Int) (t:Int) (u:List Nat):(l_:Lf81)→Tr (((Int)×(Int)×Unit)×(Int)×(Int)×Unit) Lf81 (sLf81 s t u) (Cod.tup (Row.cons (Cod.agg (Row.cons cI (Row.cons cI Row.nil))) (Row.cons cI (Row.cons cI Row.nil)))).v
 | .k14 a b d e=>(.i (Nat.blt e u.length) (.i a (.r ((0,0,()),((e:Nat):Int),14,())) (.c A137 S137 ((((iP u e).1:Nat):Int),()) fun f=>(.i (!f) (.r ((0,0,()),((e:Nat):Int),14,())) (.c Af138 Sf138 ((b,d,()),(((iP u e).1:Nat):Int),()) fun h=>(.i (h.1==4) (.g (.k14 true h.1 h.2.1 (e+(iP u e).2))) (.i (h.2.1==3) (.g (.k14 true h.1 h.2.1 (e+(iP u e).2))) (.c Af139 bxT ((((iP u e).1:Nat):Int),()) fun j=>(.g (.k14 j h.1 h.2.1 (e+(iP u e).2)))))))))) (.r ((b,d,()),0,0,())))
noncomputable def Tf81 (s:Int) (t:Int) (u:List Nat):Tr (((Int)×(Int)×Unit)×(Int)×(Int)×Unit) Lf81 (sLf81 s t u) (Cod.tup (Row.cons (Cod.agg (Row.cons cI (Row.cons cI Row.nil))) (Row.cons cI (Row.cons cI Row.nil)))).v:=(.c avz ax1 (s,0,3,()) fun a=>(.i (!a) (.r ((0,0,()),0,3,())) (.c avz ax1 (t,0,2,()) fun b=>(.i (!b) (.r ((0,0,()),0,3,())) (.i (decide (24<((u.length:Nat):Int))) (.r ((0,0,()),0,5,())) (.g (.k14 false s t 0)))))))
def Ef81J (s:Int) (t:Int) (u:List Nat):=Tr.lp (bjn s t u)
def Ef81 (n:Nat) (s:Int) (t:Int) (u:List Nat):=(Tf81 s t u).d (Ef81J s t u n)
def Sf81 (x:Int×Int×(List Nat)×Unit):=Ef81 (x.2.2.1.length+64) x.1 x.2.1 x.2.2.1
noncomputable def wf81:Wk (Int×Int×(List Nat)×Unit) (((Int)×(Int)×Unit)×(Int)×(Int)×Unit) Lf81 (Cod.tup (Row.cons (Cod.agg (Row.cons cI (Row.cons cI Row.nil))) (Row.cons cI (Row.cons cI Row.nil)))).v:=⟨fun x=>sLf81 x.1 x.2.1 x.2.2.1,uf81,fun x=>Tf81 x.1 x.2.1 x.2.2.1,fun x=>bjn x.1 x.2.1 x.2.2.1⟩
noncomputable def Kf81:=aU 140 Tryz.func140 [bxX,K137,Kf138,Kf139] noZ ⟨59,(lookA [(7,⟨[6,9,10,30],[0,1,2],3,[],[],[],[]⟩)]),noL,noL⟩ 128 Af81 (Cod.tup (Row.cons (Cod.agg (Row.cons cI (Row.cons cI Row.nil))) (Row.cons cI (Row.cons cI Row.nil)))) Sf81 wf81 (fun x=>x.2.2.1.length+64)
end
end Go.Ev
