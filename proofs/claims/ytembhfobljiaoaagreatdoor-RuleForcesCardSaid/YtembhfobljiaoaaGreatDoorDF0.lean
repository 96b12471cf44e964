import Derived.Test.YtembhfobljiaoaaGreatDoorEvD
import Derived.Test.YtembhfobljiaoaaGreatDoorBase
set_option linter.unusedSimpArgs false
set_option linter.unusedVariables false
namespace Go.Ev
open Go.RowKit Go.Proofs
set_option maxRecDepth 100000
noncomputable section
def oN (f:Func):Code:=f.body.getD .skip
def lK:Row Int:=Row.iso (Row.cons cI Row.nil) (fun x=>x.1) (fun n=>(n,())) (fun _=>rfl) (fun _=>rfl)
def gdS:Nat→Option (List V):=fun b=>bif Nat.beq b 2 then ak3 waysL else none
theorem gdOK:GD gT gdS:=by
 intro b cs h
 unfold gdS at h
 cases hb:Nat.beq b 2 with
 | false=>rw [hb]at h;cases h
 | true=>
   rw [hb]at h
   obtain rfl:=Nat.eq_of_beq_eq_true hb
   have:=nR h
   rw [this];rfl
def eqTab:List (Nat×List Nat):=[(22,[0,0,0]),(23,[0,0]),(25,[0,0,0,0,0,0,0,0,0,0,0,0,1]),(28,[0,0,0,0,0,0,0,0,0,0,0,0,1]),(65,[0,0,0,0,0,0,0,0]),(29,[1,1,1,1])]
def eqS:TypeId→Option (List Nat):=fun t=>lookA eqTab t
theorem awG:∀p∈eqTab,ajE Tryz.prog p.1=some p.2:=by
 unfold eqTab
 simp only [List.forall_mem_cons]
 exact⟨by kernel_rfl,by kernel_rfl,by kernel_rfl,by kernel_rfl,by kernel_rfl,by kernel_rfl,fun _ h=>by cases h⟩
theorem eqOK:EqT Tryz.prog eqS:=fun t ks h=>awG _ (cF h)
def cfgS (l:List (Con Tryz.prog gT)) (lz:Nat→Bool):Cfg V:=⟨Tryz.prog,gT,gdS,eqS,conD l,lz,awX l,akp,akp⟩
def aY (f:FuncId) {fn:Func}(hfn:Tryz.prog.funcs[f]? = some fn) (l:List (Con Tryz.prog gT)) (lz:Nat→Bool) (p:awr) (m:Nat) {α ρ L:Type}(A:Row α) (Q:Cod ρ) (S:α→Option ρ) {W:ρ→V}(w:Wk α ρ L W) (fuel:α→Nat) (hW:∀r,(W r).c=(Q.v r).c:=by intro r;rfl) (hS:∀x,S x=w.S fuel x:=by intro x;rfl)
  (hc:fn.body=some (oN fn):=by kernel_rfl)
  (q:∀n x,dFn (cfgS l lz) p m (oN fn) fn.results.toList n (A.v x)=(w.E x).m (dJ (cfgS l lz) p (oN fn) fn.results.toList n) w.u:=by intro n x;kernel_rfl)
  (qJ:∀n x l',dJ (cfgS l lz) p (oN fn) fn.results.toList (n+1) (w.u l') (w.st x l')=(w.J x l').m (dJ (cfgS l lz) p (oN fn) fn.results.toList n) w.u:=by intro n x l;cases l<;>kernel_rfl)
  (hn:tG (b5 (topW (cfgS l lz) p) (rfN 2) (oN fn))=true:=by kernel_rfl) (h1:Nat.blt A.w 1000=true:=by kernel_rfl) (h2:Nat.max fn.ntmps A.w=p.sz:=by kernel_rfl):Con Tryz.prog gT:=
 Con.of f A Q S (Fn.of mixed noNG hfn hc l A Q S (cfgS l lz) p m rfl rfl gdOK eqOK rfl rfl rfl rfl hn (fun x=>by rw [A.len];exact⟨by rwa [Nat.blt_eq]at h1,h2⟩) fun x r h=>w.ok hW q qJ x r ((hS x).symm.trans h))
def mv0:Mv:=⟨0,0,false,[],[]⟩
def rMv:Row Mv:=Row.iso (Row.cons cI (Row.cons cI (Row.cons cB (Row.cons cS (Row.cons (Cod.list 0 lK) Row.nil))))) (fun x=>⟨x.1,x.2.1,x.2.2.1,x.2.2.2.1,x.2.2.2.2.1⟩) (fun y=>(y.f,y.t,y.o,y.h,y.b,())) (fun _=>rfl) (fun _=>rfl)
structure Pl where
 p:List Nat
 e:List Nat
 l:Bool
 m:List (Mv)
def rPl:Row Pl:=Row.iso (Row.cons cS (Row.cons cS (Row.cons cB (Row.cons (Cod.list mv0 rMv) Row.nil)))) (fun x=>⟨x.1,x.2.1,x.2.2.1,x.2.2.2.1⟩) (fun y=>(y.p,y.e,y.l,y.m,())) (fun _=>rfl) (fun _=>rfl)
structure St where
 inn:Int
 half:Int
 outs:Int
 balls:Int
 strikes:Int
 b1:Int
 b2:Int
 b3:Int
 n0:Int
 n1:Int
 c0:Int
 c1:Int
 over:Bool
 deriving DecidableEq
def rSt:Row St:=Row.iso (Row.cons cI (Row.cons cI (Row.cons cI (Row.cons cI (Row.cons cI (Row.cons cI (Row.cons cI (Row.cons cI (Row.cons cI (Row.cons cI (Row.cons cI (Row.cons cI (Row.cons cB Row.nil))))))))))))) (fun x=>⟨x.1,x.2.1,x.2.2.1,x.2.2.2.1,x.2.2.2.2.1,x.2.2.2.2.2.1,x.2.2.2.2.2.2.1,x.2.2.2.2.2.2.2.1,x.2.2.2.2.2.2.2.2.1,x.2.2.2.2.2.2.2.2.2.1,x.2.2.2.2.2.2.2.2.2.2.1,x.2.2.2.2.2.2.2.2.2.2.2.1,x.2.2.2.2.2.2.2.2.2.2.2.2.1⟩) (fun y=>(y.inn,y.half,y.outs,y.balls,y.strikes,y.b1,y.b2,y.b3,y.n0,y.n1,y.c0,y.c1,y.over,())) (fun _=>rfl) (fun _=>rfl)
structure Wy where
 o:Bool
 l:List Nat
 r:Int
 b:Int
def rWay:Row Wy:=Row.iso (Row.cons cB (Row.cons cS (Row.cons cI (Row.cons cI Row.nil)))) (fun x=>⟨x.1,x.2.1,x.2.2.1,x.2.2.2.1⟩) (fun y=>(y.o,y.l,y.r,y.b,())) (fun _=>rfl) (fun _=>rfl)
def gW:List V:=[.bool false,.str [98],.int .i64 (3:Int),.int .i64 (3:Int),.bool false,.str [97],.int .i64 (3:Int),.int .i64 (3:Int),.bool false,.str [115],.int .i64 (0:Int),.int .i64 (3:Int),.bool false,.str [112],.int .i64 (3:Int),.int .i64 (3:Int),.bool false,.str [107],.int .i64 (0:Int),.int .i64 (3:Int),.bool false,.str [116],.int .i64 (3:Int),.int .i64 (3:Int),.bool false,.str [111],.int .i64 (3:Int),.int .i64 (3:Int),.bool true,.str [102],.int .i64 (2:Int),.int .i64 (2:Int),.bool true,.str [103],.int .i64 (3:Int),.int .i64 (4:Int),.bool true,.str [99],.int .i64 (2:Int),.int .i64 (0:Int),.bool true,.str [100],.int .i64 (0:Int),.int .i64 (1:Int),.bool true,.str [107],.int .i64 (2:Int),.int .i64 (0:Int),.bool true,.str [110],.int .i64 (2:Int),.int .i64 (3:Int),.bool true,.str [121],.int .i64 (2:Int),.int .i64 (0:Int)]
end
end Go.Ev
namespace Go.Ev
open Go.RowKit Go.Proofs
set_option maxRecDepth 20000
set_option maxHeartbeats 4000000
noncomputable def azs:FuncId→Bool:=fun f=>Nat.beq f 100000
noncomputable def quiet:aQ:=azr Tryz.prog gT 100 azs
def aqY (b:Bool):Option (List Out)→Bool
 | some l=>l.all fun o=>match o with | .val (.bool c) _=>c==b|_=>false
 | none=>false
theorem akj {f:FuncId}{F:List EVal→Option EVal}{n:Nat}(H1:∀a u,F a=some u→∃b,u=.bool b∧aqY b (run Tryz.prog gT quiet n (.call f a H.start))=true):FnT f F:=by
 intro B0 W0 G a u hF vs fro w hvs hfz hb hs
 obtain⟨b,rfl,h⟩:=H1 a u hF
 have G1:GRel w.heap.size w gT:=G.grow hb hs
 cases hr:run Tryz.prog gT quiet n (.call f a H.start)with
 | none=>rw [hr]at h;cases h
 | some outs=>
   rw [hr]at h
   have hall:∀o∈outs,(match o with | .val (.bool c) _=>c==b|_=>false)=true:=List.all_eq_true.1 h
   refine(pU mixed noNG hfz G1 (wY (W0:=⟨w,fro⟩) mixed noNG G1 100 azs) hr hvs).mono ?_
   rintro e w' ⟨v,h',u,ρ,hm,rfl,hv,hR⟩
   have:=hall _ hm
   split at this
   · rename_i heq
     cases heq
     cases hv
     simp only [beq_iff_eq]at this
     subst this
     refine⟨_,ρ.fro,rfl,.bool _,hR.below,?_⟩
     have hfro:(fun b=>if b<w.heap.size then fro b else ρ.fro b)=ρ.fro:=by
      funext b
      split
      · rename_i hb;exact(hR.fz0 b hb).symm
      · rfl
     rw [hfro];exact hR.fz
   · cases this
theorem nbeq (x k:Nat):(((x:Nat):Int)==((k:Nat):Int))=(x==k):=by
 rw [Bool.eq_iff_iff,beq_iff_eq,beq_iff_eq];omega
def hasC (l:List Nat) (c:Int):Bool:=l.any fun x=>(x:Int)==c
theorem avO {l:List Nat}{c:Int}{k x:Nat}(h:l[k]? = some x):hasC (l.drop k) c=(((x:Int)==c)||hasC (l.drop (k+1)) c):=by
 obtain⟨hk,rfl⟩:=List.getElem?_eq_some_iff.1 h
 rw [List.drop_eq_getElem_cons hk];rfl
theorem av9 (s:ByteArray) (i:Nat) (h:128≤(s.get! i).toNat):128≤(Utf8.decode s i).1:=by
 unfold Utf8.decode
 simp only [Nat.add_zero]
 rw [if_neg (by omega)]
 have h2:128≤Utf8.runeError:=by decide
 split
 · split
   · assumption
   · exact h2
 · split
   · split
     · rename_i h3
       simp only [Bool.and_eq_true,decide_eq_true_eq]at h3
       omega
     · exact h2
   · split
     · split
       · rename_i h3
         simp only [Bool.and_eq_true,decide_eq_true_eq]at h3
         omega
       · exact h2
     · exact h2
def dT (l:List Nat):Bool:=l.all fun c=>decide (c<256)
theorem ajx {l:List Nat}{k c:Nat}(h:l[k]? = some c) (hc:c<128):dM l k=some (c,1):=by
 unfold dM;rw [h];simp [hc]
theorem avA {l:List Nat}{k c:Nat}(hb:dT l=true) (h:l[k]? = some c) (hc:¬c<128):∃r w,dM l k=some (r,w)∧128≤r:=by
 unfold dM;rw [h]
 simp only [hc,if_false]
 refine⟨_,_,rfl,av9 _ _ ?_⟩
 have hlt:c<256:=by
  have:=List.all_eq_true.1 hb c (List.mem_of_getElem? h)
  simpa using this
 have hk:=(List.getElem?_eq_some_iff.1 h).1
 have:((⟨(l.map UInt8.ofNat).toArray⟩:ByteArray).get! k)=UInt8.ofNat c:=by
  show((l.map UInt8.ofNat).toArray)[k]! = _
  have hq:(l.map UInt8.ofNat)[k]? = some (UInt8.ofNat c):=by simp [h]
  simp [hq]
 rw [this]
 simp
 omega
def withinB (n lo hi:Int):Bool:=decide (lo≤n)&&decide (n≤hi)
def b8 (n lo hi:Int):Int:=if n<lo∨hi<n then 3 else 0
theorem awA {l:List Nat}{c i:Nat}(h:∀x∈l,x<128) (hc:128≤c):a6 l c i=-1:=by
 induction l generalizing i with
 | nil=>rfl
 | cons x l ih=>
   unfold a6
   rw [if_neg (by have:=h x List.mem_cons_self;omega)]
   exact ih fun y hy=>h y (List.mem_cons_of_mem _ hy)
theorem runeE_cases (r:Int) (h:128≤r):(∃a b:Nat,bT r=[a,b]∧128≤b∧b<256)∨(∃a b c:Nat,bT r=[a,b,c]∧128≤c∧c<256)∨(∃a b c d:Nat,bT r=[a,b,c,d]∧128≤d∧d<256):=by
 unfold bT Utf8.encode
 have hc:∃n:Nat,(if Utf8.valid r then r.toNat else Utf8.runeError)=n∧128≤n:=by
  split
  · exact⟨_,rfl,by omega⟩
  · exact⟨_,rfl,by decide⟩
 obtain⟨n,hn,h128⟩:=hc
 simp only [hn]
 have e:∀k:Nat,(UInt8.ofNat (128+k % 64)).toNat=128+k % 64:=fun k=>by
  simp
  omega
 rw [if_neg (by omega)]
 split
 · exact .inl ⟨_,_,rfl,by rw [e];omega,by rw [e];omega⟩
 split
 · exact .inr (.inl ⟨_,_,_,rfl,by rw [e];omega,by rw [e];omega⟩)
 · exact .inr (.inr ⟨_,_,_,_,rfl,by rw [e];omega,by rw [e];omega⟩)
theorem lS {n:Nat}(h:128≤n):isP n=false:=by
 simp [isP];omega
end Go.Ev
namespace Go.Ev
open Go.RowKit Go.Proofs
set_option maxRecDepth 100000
set_option maxHeartbeats 4000000
noncomputable section
theorem akz (l:List Nat):((List.range 256).map fun c=>run Tryz.prog gT quiet 2000 (.call 166 [.str l,.int .u8 ((c:Nat):Int)] H.start))=(List.range 256).map fun c=>some [.val (.int .i64 (a6 l c 0)) H.start]:=by kernel_rfl
def A230:Row (List Nat×Int×Unit):=Row.cons cS (Row.cons cU8 Row.nil)
def S230 (x:List Nat×Int×Unit):Option Int:=if 0≤x.2.1∧x.2.1<256 then some (a6 x.1 x.2.1.toNat 0)else none
theorem fn230:FnT 166 (fOf A230 cI S230):=by
 intro B0 W0 G a u hF vs fro w hvs hfz hb hs
 obtain⟨⟨l,c,_⟩,r,rfl,h1,rfl⟩:=qR hF
 unfold S230 at h1
 split at h1
 rotate_left
 · cases h1
 rename_i hc
 cases h1
 dsimp only at hc hvs ⊢
 obtain⟨k,rfl⟩:∃k:Nat,c=(k:Int):=⟨c.toNat,by omega⟩
 have hk:k<256:=by omega
 have hr:run Tryz.prog gT quiet 2000 (.call 166 [.str l,.int .u8 ((k:Nat):Int)] H.start)=some [.val (.int .i64 (a6 l k 0)) H.start]:=by
  have:=congrArg (fun q=>q[k]?) (akz l)
  simpa [hk]using this
 have e:V.cs (A230.v (l,((k:Nat):Int),()))=[.str l,.int .u8 ((k:Nat):Int)]:=by
  show V.cs [V.str l,V.int .u8 _]=_
  simp only [V.cs,V.c]
 rw [e]at hvs
 have G1:GRel w.heap.size w gT:=G.grow hb hs
 refine(pU mixed noNG hfz G1 (wY (W0:=⟨w,fro⟩) mixed noNG G1 100 azs) hr hvs).mono ?_
 rintro e w' ⟨v,h',u,ρ,hm,rfl,hv,hR⟩
 simp only [List.mem_singleton,Out.val.injEq]at hm
 obtain⟨rfl,rfl⟩:=hm
 have e2:(cI.v (a6 l k 0)).c=.int .i64 (a6 l k 0):=by simp only [ax2,V.c]
 cases hv
 refine⟨_,ρ.fro,rfl,?_,hR.below,?_⟩
 · rw [show(((k:Nat):Int)).toNat=k from Int.toNat_natCast k,e2];exact .int _ _
 · have hfro:(fun b=>if b<w.heap.size then fro b else ρ.fro b)=ρ.fro:=by
    funext b
    split
    · rename_i hb;exact(hR.fz0 b hb).symm
    · rfl
   rw [hfro];exact hR.fz
def K230:Con Tryz.prog gT:=Con.of 166 A230 cI S230 fn230
def CL:List (List Nat):=[[107,102,103,112,116],[97],[98,116,111,102,99,103],[110],[121],[],[99,107,110,121],[73,78],[88,89],[75],[89],[87,72,73],[75,87],[88,75],[72,73,78],[99,107],[99],[107]]
def OL:List Nat:=[75,87,72,73,88,78,89,98,97,115,112,107,116,111,102,103,99,100,110,121]
def EL:List Nat:=[75,87,72,73,88,78,89]
theorem con_ev:((List.range 256).all fun r=>aqY (hasC EL r) (run Tryz.prog gT quiet 2000 (.call 110 [.str EL,.str [r]] H.start)))=true:=by kernel_rfl
theorem awW:(CL.all fun c=>OL.all fun r=>aqY (hasC c r) (run Tryz.prog gT quiet 2000 (.call 110 [.str c,.str [r]] H.start)))=true:=by kernel_rfl
def F181:List EVal→Option EVal
 | [.str c,.str [r]]=>if(c∈CL∧r∈OL)∨(c=EL∧r<256)then some (.bool (hasC c r))else none
 | _=>none
theorem fn181:FnT 110 F181:=by
 refine akj (n:=2000) fun a u h=>?_
 unfold F181 at h
 split at h
 rotate_left
 · cases h
 rename_i c r
 split at h
 rotate_left
 · cases h
 rename_i hx
 cases h
 rcases hx with hx|⟨rfl,hx⟩
 · exact⟨_,rfl,List.all_eq_true.1 (List.all_eq_true.1 awW c hx.1) r hx.2⟩
 · exact⟨_,rfl,List.all_eq_true.1 con_ev r (List.mem_range.2 hx)⟩
def ajm:Row (List Nat×List Nat×Unit):=Row.cons cS (Row.cons cS Row.nil)
def v7 (x:List Nat×List Nat×Unit):Option Bool:=match x.2.1 with
 | [r]=>if(x.1∈CL∧r∈OL)∨(x.1=EL∧r<256)then some (hasC x.1 r)else none
 | _=>none
def K181:Con Tryz.prog gT:=Con.of 110 ajm cB v7 (Fn.weak fn181 fun a v h=>by
 obtain⟨⟨c,t,_⟩,r,rfl,hs,rfl⟩:=qR h
 have e:V.cs (ajm.v (c,t,()))=[.str c,.str t]:=by
  show V.cs [V.str c,V.str t]=_
  simp only [V.cs,V.c]
 rw [e]
 unfold v7 at hs
 split at hs
 · rename_i r' ht
   dsimp only at ht hs
   subst ht
   split at hs
   · rename_i hx
     cases hs
     simp only [F181,if_pos hx,cB,V.c]
   · cases hs
 · cases hs)
end
end Go.Ev
namespace Go.Ev
open Go.RowKit Go.Proofs
set_option maxRecDepth 100000
set_option maxHeartbeats 4000000
set_option linter.unusedVariables false
noncomputable section
def Af231:=(Row.cons (ax2 .i32) Row.nil)
noncomputable def Tf231 (s:Int):Tr Bool Empty noS cB.v:=(.i (decide (0≤s)) (.i (decide (s<55296)) (.r true) (.i (decide (57343<s)) (.i (decide (s≤1114111)) (.r true) (.r false)) (.r false))) (.i (decide (57343<s)) (.i (decide (s≤1114111)) (.r true) (.r false)) (.r false)))
def Ef231 (s:Int):=(Tf231 s).d noE
def awl (x:Int×Unit):=Ef231 x.1
def wf231:Wk (Int×Unit) Bool Empty cB.v:=wk0 fun x=>Tf231 x.1
def Kf231:=aY 167 Tryz.func167 [] noZ ⟨17,noL,noL,noL⟩ 128 Af231 cB awl wf231 (fun _=>0)
def Af214:=(Row.cons cS (Row.cons (ax2 .i32) Row.nil))
inductive aqa where
 | k76 (x4:Nat)
 | k10
 | k24 (x6:Int) (x7:Int)
def uf214:aqa→Nat
 | .k76 _=>76
 | .k10=>10
 | .k24 _ _=>24
noncomputable def azf (s:List Nat) (t:Int):aqa→D
 | .k76 x4=>mD [(175,.ptr 0 0)] 1 [(0,.iter s x4)] 128 []
 | .k10=>mD [(0,.str s),(7,.str (bT t)),(8,.int .i64 (w6 ((((bT t).length:Nat):Int)-1))),(9,.int .i64 (w6 ((((bT t).length:Nat):Int)-1)))] 0 [] 128 []
 | .k24 x6 x7=>mD [(0,.str s),(7,.str (bT t)),(8,.int .i64 (w6 ((((bT t).length:Nat):Int)-1))),(9,.int .i64 x6),(12,.int .i64 x7)] 0 [] 128 []
noncomputable def aj8 (s:List Nat) (t:Int):(l_:aqa)→Tr Int aqa (azf s t) cI.v
 | .k76 x4=>(.i (Nat.blt x4 s.length) (.i ((((gB s x4).1:Nat):Int)==65533) (.r ((x4:Nat):Int)) (.g (.k76 (x4+(gB s x4).2)))) (.r (-1)))
 | .k10=>(.i (decide ((w6 ((((bT t).length:Nat):Int)-1))<((s.length:Nat):Int))) (.i (inR (w6 ((((bT t).length:Nat):Int)-1)) s.length) (.i (inR (w6 ((((bT t).length:Nat):Int)-1)) ((bT t).length)) (.i (!(((s.getD (w6 ((((bT t).length:Nat):Int)-1)).toNat 0:Nat):Int)==(((bT t).getD (w6 ((((bT t).length:Nat):Int)-1)).toNat 0:Nat):Int))) (.i (decide ((0:Int)≤(w6 ((w6 ((((bT t).length:Nat):Int)-1))+1)))&&decide ((w6 ((w6 ((((bT t).length:Nat):Int)-1))+1))≤((s.length:Nat):Int))) (.i (inR (w6 ((((bT t).length:Nat):Int)-1)) ((bT t).length)) (.c A230 S230 (((s.take s.length).drop ((w6 ((w6 ((((bT t).length:Nat):Int)-1))+1)).toNat)),(((bT t).getD (w6 ((((bT t).length:Nat):Int)-1)).toNat 0:Nat):Int),()) fun r14=>(.i (decide (r14<0)) (.r (-1)) (.g (.k24 (w6 ((w6 ((((bT t).length:Nat):Int)-1))+(w6 (r14+1)))) 1)))) .n) .n) (.g (.k24 (w6 ((((bT t).length:Nat):Int)-1)) 1))) .n) .n) (.r (-1)))
 | .k24 x6 x7=>(.i (decide (x7<(((bT t).length:Nat):Int))) (.i (inR (w6 (x6-x7)) s.length) (.i (inR (w6 ((w6 ((((bT t).length:Nat):Int)-1))-x7)) ((bT t).length)) (.i (!(((s.getD (w6 (x6-x7)).toNat 0:Nat):Int)==(((bT t).getD (w6 ((w6 ((((bT t).length:Nat):Int)-1))-x7)).toNat 0:Nat):Int))) .n (.g (.k24 x6 (w6 (x7+1))))) .n) .n) (.r (w6 (x6-(w6 ((((bT t).length:Nat):Int)-1))))))
noncomputable def Tf214 (s:List Nat) (t:Int):Tr Int aqa (azf s t) cI.v:=(.i (decide (0≤t)) (.i (decide (t<128)) (.c A230 S230 (s,(IntKind.u8.wrap t),()) fun r11=>(.r r11)) (.i (t==65533) (.g (.k76 0)) (.c Af231 awl (t,()) fun r12=>(.i (!r12) (.r (-1)) (.g .k10))))) (.i (t==65533) (.g (.k76 0)) (.c Af231 awl (t,()) fun r13=>(.i (!r13) (.r (-1)) (.g .k10)))))
def t9 (s:List Nat) (t:Int):=Tr.lp (aj8 s t)
theorem awy {s:List Nat}{t:Int}{n:Nat}{l_:aqa}:t9 s t (n+1) l_=(aj8 s t l_).d (t9 s t n):=rfl
def Ef214 (n:Nat) (s:List Nat) (t:Int):=(Tf214 s t).d (t9 s t n)
def Sf214 (x:(List Nat)×Int×Unit):=Ef214 (x.1.length+64) x.1 x.2.1
def wf214:Wk ((List Nat)×Int×Unit) Int aqa cI.v:=⟨fun x=>azf x.1 x.2.1,uf214,fun x=>Tf214 x.1 x.2.1,fun x=>aj8 x.1 x.2.1⟩
noncomputable def Kf214:=aY 157 Tryz.func157 [K230,Kf231] noZ ⟨187,(lookA [(38,⟨[175],[0],1,[],[],[],[]⟩),(5,⟨[0,7,8,9],[],0,[],[],[],[]⟩),(12,⟨[0,7,8,9,12],[],0,[],[],[],[]⟩)]),noL,noL⟩ 128 Af214 cI Sf214 wf214 (fun x=>x.1.length+64)
def Af190:=(Row.cons cS (Row.cons (ax2 .i32) Row.nil))
def Tf190 (s:List Nat) (t:Int):Tr Bool Empty noS cB.v:=(.c Af214 Sf214 (s,t,()) fun r2=>(.r (decide (0≤r2))))
def Ef190 (s:List Nat) (t:Int):=(Tf190 s t).d noE
def awn (x:(List Nat)×Int×Unit):=Ef190 x.1 x.2.1
def wf190:Wk ((List Nat)×Int×Unit) Bool Empty cB.v:=wk0 fun x=>Tf190 x.1 x.2.1
def Kf190:=aY 145 Tryz.func145 [Kf214] noZ ⟨9,noL,noL,noL⟩ 128 Af190 cB awn wf190 (fun _=>0)
def Af137:=(Row.cons (ax2 .i32) Row.nil)
def Tf137 (s:Int):Tr Bool Empty noS cB.v:=(.c Af190 awn ([66,67,83,70,88,72],s,()) fun r2=>(.r r2))
def Ef137 (s:Int):=(Tf137 s).d noE
def Sf137 (x:Int×Unit):=Ef137 x.1
def wf137:Wk (Int×Unit) Bool Empty cB.v:=wk0 fun x=>Tf137 x.1
def Kf137:=aY 127 Tryz.func127 [Kf190] noZ ⟨5,noL,noL,noL⟩ 128 Af137 cB Sf137 wf137 (fun _=>0)
def Af87:=(Row.cons (Cod.list mv0 rMv) Row.nil)
def Wf87 (r:(List (Mv))):V:=.el (r.map rMv.v)
theorem hWf87 (r:(List (Mv))):(Wf87 r).c=((Cod.list mv0 rMv).v r).c:=by
 first|rfl|exact c9|(show EVal.tup (V.cs _)=EVal.tup (V.cs _);simp only [V.cs_map,List.map_cons,List.map_nil,c9];rfl)
inductive Lf87 where
 | k6 (x1:Int) (x2:List (Mv))
def uf87:Lf87→Nat
 | .k6 _ _=>6
def azR (s:List (Mv)) (x1:Int) (x2:List (List V)):D:=mD [(0,(Cod.list mv0 rMv).v s),(3,.gl 0),(4,.int .i64 x1)] 0 [] 1 [(0,(x2,38))]
def aki (s:List (Mv)):Lf87→D
 | .k6 x1 x2=>azR s x1 (x2.map rMv.v)
noncomputable def akL (s:List (Mv)):(l_:Lf87)→Tr (List (Mv)) Lf87 (aki s) Wf87
 | .k6 x1 x2=>(.i (decide (x1<((s.length:Nat):Int))) (.i (inR x1 s.length) (.i (Nat.ble (8*((s.getD x1.toNat mv0).b).length) 1000000) (.i (Nat.ble (64*(((x2.map rMv.v)).length+1)) 1000000) (.j (.k6 (w6 (x1+1)) (x2++[(s.getD x1.toNat mv0)])) (azR s (w6 (x1+1)) ((x2.map rMv.v)++[[.int .i64 (s.getD x1.toNat mv0).f,.int .i64 (s.getD x1.toNat mv0).t,.bool ((s.getD x1.toNat mv0).o),.str ((s.getD x1.toNat mv0).h),(Cod.list 0 lK).v ((s.getD x1.toNat mv0).b)]])) ⟨by simp only [aki,List.map_append,List.map_cons,List.map_nil];rfl⟩) .n) .n) .n) (.r x2))
def Tf87 (s:List (Mv)):Tr (List (Mv)) Lf87 (aki s) Wf87:=(.g (.k6 0 []))
def awx (s:List (Mv)):=Tr.lp (akL s)
theorem ak0 {s:List (Mv)}{n:Nat}{l_:Lf87}:awx s (n+1) l_=(akL s l_).d (awx s n):=rfl
def Ef87 (n:Nat) (s:List (Mv)):=(Tf87 s).d (awx s n)
def Sf87 (x:(List (Mv))×Unit):=Ef87 (x.1.length+64) x.1
def wf87:Wk ((List (Mv))×Unit) (List (Mv)) Lf87 Wf87:=⟨fun x=>aki x.1,uf87,fun x=>Tf87 x.1,fun x=>akL x.1⟩
def Kf87:=aY 32 Tryz.func32 [] noZ ⟨26,(lookA [(3,⟨[0,3,4],[],0,[(3,38)],[0],[],[]⟩)]),noL,noL⟩ 0 Af87 (Cod.list mv0 rMv) Sf87 wf87 (fun x=>x.1.length+64) hWf87
def Af33:=(Row.cons (Cod.agg rPl) Row.nil)
def Tf33 (s:Pl):Tr Pl Empty noS (Cod.agg rPl).v:=(.c Af87 Sf87 (s.m,()) fun r2=>(.r (⟨s.p,s.e,s.l,r2⟩:Pl)))
def Ef33 (s:Pl):=(Tf33 s).d noE
def Sf33 (x:Pl×Unit):=Ef33 x.1
def wf33:Wk (Pl×Unit) Pl Empty (Cod.agg rPl).v:=wk0 fun x=>Tf33 x.1
def Kf33:=aY 8 Tryz.func8 [Kf87] noZ ⟨8,noL,noL,noL⟩ 128 Af33 (Cod.agg rPl) Sf33 wf33 (fun _=>0)
end
end Go.Ev
