import Derived.Test.YtgnnhpffealmmaaGreatDoorSgA
set_option linter.unusedSimpArgs false
set_option linter.unusedVariables false
namespace Go.Ev
open Go.RowKit Go.Proofs
set_option maxRecDepth 100000
set_option maxHeartbeats 4000000
set_option linter.unusedSimpArgs false
set_option linter.unusedVariables false
noncomputable section
theorem cnz {α:Type}(x:Int) (a b:α):cond (!(x==0)) a b=if x=0 then b else a:=by
 by_cases h:x=0
 · simp [h]
 · rw [if_neg h,show(x==0)=false by simpa using h];rfl
def fst:List Int→Int
 | []=>0
 | x::l=>if x=0 then fst l else x
theorem qV {l:List Int}{k:Nat}{x:Int}(h:l[k]? = some x):fst (l.drop k)=if x=0 then fst (l.drop (k+1))else x:=by
 obtain⟨hk,rfl⟩:=List.getElem?_eq_some_iff.1 h
 rw [List.drop_eq_getElem_cons hk,fst]
theorem fst_30 (l:List Int) (hl:l.length<1000):∀j n k,k+j=l.length→Tr.lp (zA l) (n+j+1) (.k4 (k:Int))=some (fst (l.drop k)):=by
 intro j
 induction j with
 | zero=>
   intro n k hk
   rw [Tr.lp_s]
   simp only [zA,TS,j4 (show ¬k<l.length by omega),cond_false,List.drop_eq_nil_of_le (show l.length≤k by omega)];rfl
 | succ j ih=>
   intro n k hk
   have hlt:k<l.length:=by omega
   obtain⟨x,hx⟩:=eW hlt
   rw [Tr.lp_s]
   simp only [zA,TS,j3 hlt,eQ hlt,cond_true,Int.toNat_natCast,aM hx,qV hx,w6s (show k<9223372036854775807 by omega),cnz]
   rw [show n+(j+1)=n+j+1 by omega,ih n (k+1) (by omega)]
   by_cases h0:x=0
   · rw [if_pos h0,if_pos h0]
   · rw [if_neg h0,if_neg h0]
theorem s30 (l:List Int) (hl:l.length<1000):Sz30 (l,())=some (fst l):=by
 show Ez30 (l.length+64) l=_
 unfold Ez30 Tz30
 simp only [TS]
 have:=fst_30 l hl l.length 63 0 (by omega)
 rw [List.drop_zero,nc0]at this
 show Tr.lp (zA l) (l.length+64) (.k4 0)=_
 rw [fu,this]
theorem fst_65 (l:List Int) (hl:l.length<1000):∀j n k,k+j=l.length→Tr.lp (zB l) (n+j+1) (.k4 (k:Int))=some (fst (l.drop k)):=by
 intro j
 induction j with
 | zero=>
   intro n k hk
   rw [Tr.lp_s]
   simp only [zB,TS,j4 (show ¬k<l.length by omega),cond_false,List.drop_eq_nil_of_le (show l.length≤k by omega)];rfl
 | succ j ih=>
   intro n k hk
   have hlt:k<l.length:=by omega
   obtain⟨x,hx⟩:=eW hlt
   rw [Tr.lp_s]
   simp only [zB,TS,j3 hlt,eQ hlt,cond_true,Int.toNat_natCast,aM hx,qV hx,w6s (show k<9223372036854775807 by omega),cnz]
   rw [show n+(j+1)=n+j+1 by omega,ih n (k+1) (by omega)]
   by_cases h0:x=0
   · rw [if_pos h0,if_pos h0]
   · rw [if_neg h0,if_neg h0]
theorem s65 (l:List Int) (hl:l.length<1000):Sf65 (l,())=some (fst l):=by
 show Ef65 (l.length+64) l=_
 unfold Ef65 Tf65
 simp only [TS]
 have:=fst_65 l hl l.length 63 0 (by omega)
 rw [List.drop_zero,nc0]at this
 show Tr.lp (zB l) (l.length+64) (.k4 0)=_
 rw [fu,this]
theorem fst_95 (l:List Int) (hl:l.length<1000):∀j n k,k+j=l.length→Tr.lp (y6 l) (n+j+1) (.k6 (k:Int))=some (fst (l.drop k)):=by
 intro j
 induction j with
 | zero=>
   intro n k hk
   rw [Tr.lp_s]
   simp only [y6,TS,j4 (show ¬k<l.length by omega),cond_false,List.drop_eq_nil_of_le (show l.length≤k by omega)];rfl
 | succ j ih=>
   intro n k hk
   have hlt:k<l.length:=by omega
   obtain⟨x,hx⟩:=eW hlt
   rw [Tr.lp_s]
   simp only [y6,TS,j3 hlt,eQ hlt,cond_true,Int.toNat_natCast,aM hx,qV hx,w6s (show k<9223372036854775807 by omega),cnz]
   rw [show n+(j+1)=n+j+1 by omega,ih n (k+1) (by omega)]
   by_cases h0:x=0
   · rw [if_pos h0,if_pos h0]
   · rw [if_neg h0,if_neg h0]
theorem s95 (l:List Int) (hl:l.length<1000):Sz95 (l,())=some (fst l):=by
 show Ez95 (l.length+64) l=_
 unfold Ez95 Tz95
 simp only [TS]
 have:=fst_95 l hl l.length 63 0 (by omega)
 rw [List.drop_zero,nc0]at this
 show Tr.lp (y6 l) (l.length+64) (.k6 0)=_
 rw [fu,this]
def inb (lo hi n:Int):Bool:=decide (lo≤n∧n≤hi)
def ck (lo hi n:Int):Int:=if inb lo hi n=true then 0 else 3
def rg (lo hi:Int) (l:List Int):Int:=if l.all (inb lo hi)=true then 0 else 3
def nm (s:List Nat):Int:=if nmB s=true then 0 else 8
def nms (l:List (List Nat)):Int:=if l.all nmB=true then 0 else 8
theorem s74 (n lo hi:Int):Sz74 (n,lo,hi,())=some (inb lo hi n):=by
 show(Tz74 n lo hi).d noE=_
 simp only [Tz74,TS,inb]
 by_cases h1:lo≤n<;>by_cases h2:n≤hi<;>simp [h1,h2]
theorem f64 (n lo hi:Int):rW (n,lo,hi,())=some (ck lo hi n):=by
 show(Tf64 n lo hi).d noE=_
 simp only [Tf64,TS,ck,inb]
 by_cases h1:lo≤n
 · by_cases h2:n≤hi
   · simp [h1,h2,show ¬n<lo by omega,show ¬hi<n by omega]
   · simp [h1,h2,show ¬n<lo by omega,show hi<n by omega]
 · simp [h1,show n<lo by omega]
theorem ajJ {p:Int→Bool}{l:List Int}{k:Nat}{x:Int}(h:l[k]? = some x):(l.drop k).all p=(p x&&(l.drop (k+1)).all p):=by
 obtain⟨hk,rfl⟩:=List.getElem?_eq_some_iff.1 h
 rw [List.drop_eq_getElem_cons hk,List.all_cons]
theorem ajH {p:List Nat→Bool}{l:List (List Nat)}{k:Nat}{x:List Nat}(h:l[k]? = some x):(l.drop k).all p=(p x&&(l.drop (k+1)).all p):=by
 obtain⟨hk,rfl⟩:=List.getElem?_eq_some_iff.1 h
 rw [List.drop_eq_getElem_cons hk,List.all_cons]
theorem rg_j (lo hi:Int) (l:List Int) (hl:l.length<1000):∀j n k,k+j=l.length→Tr.lp (y8 lo hi l) (n+j+1) (.k4 (k:Int))=some (if(l.drop k).all (inb lo hi)=true then 0 else 3):=by
 intro j
 induction j with
 | zero=>
   intro n k hk
   rw [Tr.lp_s]
   simp only [y8,TS,j4 (show ¬k<l.length by omega),cond_false,List.drop_eq_nil_of_le (show l.length≤k by omega)];rfl
 | succ j ih=>
   intro n k hk
   have hlt:k<l.length:=by omega
   obtain⟨x,hx⟩:=eW hlt
   rw [Tr.lp_s]
   simp only [y8,TS,j3 hlt,eQ hlt,cond_true,Int.toNat_natCast,aM hx,ajJ hx,w6s (show k<9223372036854775807 by omega),s74,obind_some]
   rw [show n+(j+1)=n+j+1 by omega,ih n (k+1) (by omega)]
   cases inb lo hi x<;>simp
theorem s37 (lo hi:Int) (l:List Int) (hl:l.length<1000):Sz37 (lo,hi,l,())=some (rg lo hi l):=by
 show Ez37 (l.length+64) lo hi l=_
 unfold Ez37 Tz37
 simp only [TS]
 have:=rg_j lo hi l hl l.length 63 0 (by omega)
 rw [List.drop_zero,nc0]at this
 show Tr.lp (y8 lo hi l) (l.length+64) (.k4 0)=_
 rw [fu,this];rfl
theorem nms_j (l:List (List Nat)) (hl:l.length<1000) (hb:∀s∈l,dE s=true):∀j n k,k+j=l.length→Tr.lp (y9 l) (n+j+1) (.k4 (k:Int))=some (if(l.drop k).all nmB=true then 0 else 8):=by
 intro j
 induction j with
 | zero=>
   intro n k hk
   rw [Tr.lp_s]
   simp only [y9,TS,j4 (show ¬k<l.length by omega),cond_false,List.drop_eq_nil_of_le (show l.length≤k by omega)];rfl
 | succ j ih=>
   intro n k hk
   have hlt:k<l.length:=by omega
   obtain⟨x,hx⟩:=eW hlt
   rw [Tr.lp_s]
   simp only [y9,TS,j3 hlt,eQ hlt,cond_true,Int.toNat_natCast,aM hx,ajH hx,w6s (show k<9223372036854775807 by omega),s73 x (hb x (List.mem_of_getElem? hx)),obind_some]
   rw [show n+(j+1)=n+j+1 by omega,ih n (k+1) (by omega)]
   cases nmB x<;>simp
theorem s36 (l:List (List Nat)) (hl:l.length<1000) (hb:∀s∈l,dE s=true):Sz36 (l,())=some (nms l):=by
 show Ez36 (l.length+64) l=_
 unfold Ez36 Tz36
 simp only [TS]
 have:=nms_j l hl hb l.length 63 0 (by omega)
 rw [List.drop_zero,nc0]at this
 show Tr.lp (y9 l) (l.length+64) (.k4 0)=_
 rw [fu,this];rfl
theorem s41 (s:List Nat) (hl:s.length<1000):Sz41 (s,())=some (nm s):=by
 show(Tz41 s).d noE=_
 simp only [Tz41,TS,s77 s hl,obind_some,nm]
 cases nmB s<;>rfl
theorem s38 (a b:List Nat):Sz38 ((a,b,()),())=some (if a=b then 9 else 0):=by
 show(Tz38 (a,b,())).d noE=_
 simp only [Tz38,TS]
 by_cases h:a=b<;>simp [h]
theorem s131 (a b t:List Nat):Sz131 ([a,b],t,())=some (if t=a then 0 else if t=b then 1 else -1):=by
 show Ez131 (2+t.length+64) [a,b] t=_
 unfold Ez131 Tz131
 simp only [TS]
 rw [show 2+t.length+64=(t.length+63)+3 by omega]
 generalize t.length+63=n
 have w1:w6 1=1:=by decide
 have w2:w6 2=2:=by decide
 have w3:w6 (0+1)=1:=by decide
 have w4:w6 (1+1)=2:=by decide
 have i0:inR 0 2=true:=rfl
 have i1:inR 1 2=true:=rfl
 have g0:[a,b].getD (Int.toNat 0) []=a:=rfl
 have g1:[a,b].getD (Int.toNat 1) []=b:=rfl
 have l3:[a,b].length=2:=rfl
 rw [show n+3=(n+2)+1 from rfl,rU]
 simp only [p6,TS,l3,i0,g0,w3,show decide ((0:Int)<((2:Nat):Int))=true by decide,cond_true]
 by_cases h1:t=a
 · rw [if_pos h1,show decide (t=a)=true by simpa using h1];rfl
 · rw [if_neg h1,show decide (t=a)=false by simpa using h1,cond_false,show n+2=(n+1)+1 from rfl,rU]
   simp only [p6,TS,l3,i1,g1,w4,show decide ((1:Int)<((2:Nat):Int))=true by decide,cond_true]
   by_cases h2:t=b
   · rw [if_pos h2,show decide (t=b)=true by simpa using h2];rfl
   · rw [if_neg h2,show decide (t=b)=false by simpa using h2,cond_false,rU]
     simp only [p6,TS,l3,show decide ((2:Int)<((2:Nat):Int))=false by decide,cond_false]
def tm (g:Gm) (t:List Nat):Int:=if t=g.t0∨t=g.t1 then 0 else 10
theorem s75 (g:Gm) (t:List Nat):Sz75 (g,t,())=some (tm g t):=by
 show Ez75 (t.length+64) g t=_
 have e110:Sz110 ([g.t0,g.t1],t,())=some (decide (t=g.t0∨t=g.t1)):=by
  show(axO [g.t0,g.t1] t).d noE=_
  simp only [axO,TS,s131,obind_some]
  by_cases h1:t=g.t0
  · simp [h1]
  · by_cases h2:t=g.t1
    · rw [if_neg h1,if_pos h2];simp [h2]
    · simp [h1,h2]
 unfold Ez75 Tz75
 simp only [TS]
 show axX g t (t.length+63+1) .k3=_
 rw [Ez75J_s]
 simp only [axH,TS,e110,obind_some,tm]
 by_cases h:t=g.t0∨t=g.t1<;>simp [h]
theorem uS:∀a b:List Nat,(lessL a b||decide (a=b))=!lessL b a
 | [],[]=>rfl
 | [],_::_=>rfl
 | _::_,[]=>rfl
 | x :: a,y::b=>by
   have ih:=uS a b
   have e1:lessL (x::a) (y::b)=(decide (x<y)||(x==y&&lessL a b)):=rfl
   have e2:lessL (y::b) (x::a)=(decide (y<x)||(y==x&&lessL b a)):=rfl
   rw [e1,e2]
   by_cases h:x=y
   · subst h
     have:decide (x::a=x::b)=decide (a=b):=by simp
     rw [this]
     simp only [Nat.lt_irrefl,decide_false,Bool.false_or,beq_self_eq_true,Bool.true_and]
     exact ih
   · have h1:(x==y)=false:=by simpa using h
     have h2:(y==x)=false:=by simpa using fun e:y=x=>h e.symm
     have h3:decide (x::a=y::b)=false:=by simp [h]
     rw [h1,h2,h3]
     simp only [Bool.false_and,Bool.or_false]
     by_cases q:x<y
     · simp [q,show ¬y<x by omega]
     · simp [q,show y<x by omega]
def csL (x:Ln):List Int:=[x.c0,x.c1,x.c2,x.c3,x.c4,x.c5,x.c6,x.c7,x.c8,x.c9,x.c10,x.c11]
def orI:Option Ln→Ln→Int
 | none,_=>0
 | some y,x=>if lessL y.p x.p=true then 0 else 11
def lnE (g:Gm) (p:Option Ln) (x:Ln):Int:=fst [nm x.p,tm g x.t,rg 0 999 (csL x),orI p x]
def lnsE (g:Gm) (p:Option Ln):List Ln→Int
 | []=>0
 | x::l=>if lnE g p x=0 then lnsE g (some x) l else lnE g p x
def dH {α:Type}(l:List α) (k:Nat):Option α:=if k=0 then none else l[k-1]?
theorem nG {α:Type}(l:List α) (k:Nat):dH l (k+1)=l[k]? := by simp [dH]
theorem sU {g:Gm}{k:Nat}{x:Ln}(h:g.l[k]? = some x):lnsE g (dH g.l k) (g.l.drop k)=if lnE g (dH g.l k) x=0 then lnsE g (dH g.l (k+1)) (g.l.drop (k+1))else lnE g (dH g.l k) x:=by
 rw [nG,h]
 obtain⟨hk,rfl⟩:=List.getElem?_eq_some_iff.1 h
 rw [List.drop_eq_getElem_cons hk,lnsE]
def ajU (g:Gm):Int:=if 60<g.l.length then 5 else lnsE g none g.l
theorem ajg {α:Type}{d:α}{A:Row α}{hk:A.kb=true} (l:List α) (n:Nat):(Cod.list d A hk).ok (.fl A.w n fun i=>A.v (l.getD (0+i) d))=true:=by
 show(List.range n).all _=true
 simp only [List.all_eq_true,A.okw hk,A.okv,Bool.and_self,implies_true]
theorem wV {α:Type}{d:α}{A:Row α}{hk:A.kb=true} (l:List α) {n:Nat}(h:n≤l.length):(Cod.list d A hk).dec (.fl A.w n fun i=>A.v (l.getD (0+i) d))=l.take n:=by
 show(List.range n).map (fun i=>A.dec (A.v (l.getD (0+i) d)))=_
 simp only [A.dv,Nat.zero_add]
 have e:∀i∈List.range n,l.getD i d=(l.take n).getD i d:=by
  intro i hi
  rw [List.mem_range]at hi
  rw [List.getD_eq_getElem?_getD,List.getD_eq_getElem?_getD,List.getElem?_take,if_pos hi]
 rw [List.map_congr_left e]
 have q:=bC d (l.take n) (fun x=>x)
 rw [List.length_take,Nat.min_eq_left h,List.map_id']at q
 exact q
theorem sX {α:Type}{l:List α}{k:Nat}{d:α}(h:k<l.length):(l.take (k+1)).getD k d=l.getD k d:=by
 rw [List.getD_eq_getElem?_getD,List.getD_eq_getElem?_getD,List.getElem?_take,if_pos (by omega)]
theorem s76 (l:List Ln) (k:Nat) (hk:k≤l.length) (hl:l.length<1000) (x:Ln):Sz76 (l.take k,x,())=some (orI (dH l k) x):=by
 show(Tz76 (l.take k) x).d noE=_
 have e:(l.take k).length=k:=by rw [List.length_take];omega
 simp only [Tz76,TS,e]
 cases k with
 | zero=>simp [dH,orI]
 | succ k=>
   obtain⟨y,hy⟩:=eW (show k<l.length by omega)
   rw [nG,hy,w6p (by omega)]
   have c1:decide ((0:Int)<((k+1:Nat):Int))=true:=by rw [decide_eq_true_eq];omega
   simp only [c1,eQ (show k<k+1 by omega),cond_true,Int.toNat_natCast,sX (show k<l.length by omega),aM hy,orI]
   cases lessL y.p x.p<;>rfl
theorem a76 (l:List Ln) (k:Nat) (hk:k≤l.length) (x:Ln):Az76.ok [.fl 14 k fun i=>rLn.v (l.getD (0+i) ln0),.agg [.str x.p,.str x.t,.int .i64 x.c0,.int .i64 x.c1,.int .i64 x.c2,.int .i64 x.c3,.int .i64 x.c4,.int .i64 x.c5,.int .i64 x.c6,.int .i64 x.c7,.int .i64 x.c8,.int .i64 x.c9,.int .i64 x.c10,.int .i64 x.c11]]=true∧Az76.dec [.fl 14 k fun i=>rLn.v (l.getD (0+i) ln0),.agg [.str x.p,.str x.t,.int .i64 x.c0,.int .i64 x.c1,.int .i64 x.c2,.int .i64 x.c3,.int .i64 x.c4,.int .i64 x.c5,.int .i64 x.c6,.int .i64 x.c7,.int .i64 x.c8,.int .i64 x.c9,.int .i64 x.c10,.int .i64 x.c11]]=(l.take k,x,()):=by
 constructor
 · exact(Bool.and_eq_true_iff (x:=(Cod.list ln0 rLn).ok _)).2 ⟨ajg (d:=ln0) (hk:=rfl) l k,Bool.and_eq_true_iff.2 ⟨Cod.okv (Cod.agg rLn) x,rfl⟩⟩
 · exact Prod.ext (wV (d:=ln0) (hk:=rfl) l hk) (Prod.ext ((Cod.agg rLn).dv x) rfl)
theorem s39_j (g:Gm) (hl:g.l.length≤60) (hb:∀x∈g.l,dE x.p=true):∀j n k,k+j=g.l.length→axY g (n+2*j+1) (.k8 ((g.l.length:Nat):Int) (k:Int))=some (lnsE g (dH g.l k) (g.l.drop k)):=by
 intro j
 induction j with
 | zero=>
   intro n k hk
   rw [rT]
   simp only [vX,TS,j4 (show ¬k<g.l.length by omega),cond_false,List.drop_eq_nil_of_le (show g.l.length≤k by omega)];rfl
 | succ j ih=>
   intro n k hk
   have hlt:k<g.l.length:=by omega
   obtain⟨x,hx⟩:=eW hlt
   have e36:=s36 [x.p] (by simp) (by simpa using hb x (List.mem_of_getElem? hx))
   have e37:=s37 0 999 (csL x) (by simp [csL])
   have e30:=s30 [nms [x.p],tm g x.t,rg 0 999 (csL x),orI (dH g.l k) x] (by simp)
   have en:nms [x.p]=nm x.p:=by simp [nms,nm]
   rw [en]at e30 e36
   have c3:(decide ((0:Int)≤(k:Int))&&decide ((k:Int)≤((g.l.length:Nat):Int)))=true:=by simp;omega
   rw [show n+2*(j+1)+1=(n+2*j+1+1)+1 by omega,rT]
   simp only [vX,TS,j3 hlt,eQ hlt,cond_true,Int.toNat_natCast,aM hx]
   rw [rT]
   unfold csL at e37 e30
   simp only [vX,TS,Tr.d_v,e36,e37,s75,obind_some,c3,cond_true,Int.toNat_natCast,Nat.sub_zero,(a76 g.l k (by omega) x).1,(a76 g.l k (by omega) x).2,s76 g.l k (by omega) (by omega) x,e30,w6s (show k<9223372036854775807 by omega),sU hx]
   rw [ih n (k+1) (by omega)]
   show cond (!(lnE g (dH g.l k) x==0)) (some (lnE g (dH g.l k) x)) _=_
   rw [cnz]
   by_cases h:lnE g (dH g.l k) x=0
   · rw [if_pos h,if_pos h]
   · rw [if_neg h,if_neg h]
theorem s39 (g:Gm) (hl:g.l.length<1000) (hb:∀x∈g.l,dE x.p=true):Sz39 (g,())=some (ajU g):=by
 show Ez39 (g.l.length+g.l.length+64) g=_
 unfold Ez39 Tz39
 simp only [TS]
 rw [show g.l.length+g.l.length+64=(62+2*g.l.length+1)+1 by omega,rT]
 simp only [vX,TS]
 by_cases h:60<g.l.length
 · rw [show decide ((60:Int)<((g.l.length:Nat):Int))=true by simp;omega,cond_true,ajU,if_pos h]
 · rw [show decide ((60:Int)<((g.l.length:Nat):Int))=false by simp;omega,cond_false,ajU,if_neg h]
   have:=s39_j g (by omega) hb g.l.length 62 0 (by omega)
   rw [List.drop_zero,nc0]at this
   exact this
def gmE (g:Gm):Int:=if fst [nm g.n,ck 1 999999999 g.v,ck 0 99999 g.d,nm g.t0,nm g.t1]=0 then(if g.t0=g.t1 then 9 else if fst [ck 0 999 g.s0,ck 0 999 g.s1]=0 then ajU g else fst [ck 0 999 g.s0,ck 0 999 g.s1])else fst [nm g.n,ck 1 999999999 g.v,ck 0 99999 g.d,nm g.t0,nm g.t1]
structure ByG (g:Gm):Prop where
 n:dE g.n=true
 t0:dE g.t0=true
 t1:dE g.t1=true
 l:∀x∈g.l,dE x.p=true
theorem rg1 (lo hi a:Int):rg lo hi [a]=ck lo hi a:=by simp [rg,ck]
theorem zZ (lo hi:Int):∀l:List Int,rg lo hi l=fst (l.map (ck lo hi))
 | []=>rfl
 | x::l=>by
   rw [List.map_cons,fst,←zZ lo hi l]
   unfold rg ck
   by_cases h:inb lo hi x=true<;>simp [h]
theorem aqF:∀l:List (List Nat),nms l=fst (l.map nm)
 | []=>rfl
 | x::l=>by
   rw [List.map_cons,fst,←aqF l]
   unfold nms nm
   by_cases h:nmB x=true<;>simp [h]
theorem rg2 (lo hi a b:Int):rg lo hi [a,b]=fst [ck lo hi a,ck lo hi b]:=zZ lo hi [a,b]
theorem nms2 (a b:List Nat):nms [a,b]=fst [nm a,nm b]:=aqF [a,b]
theorem uZ:∀a b:List Int,fst (a++b)=if fst a=0 then fst b else fst a
 | [],b=>by simp [fst]
 | x::a,b=>by
   rw [List.cons_append,fst,fst,uZ a b]
   by_cases h:x=0
   · rw [if_pos h,if_pos h]
   · rw [if_neg h,if_neg h,if_neg h]
theorem ajf (a b c d:Int) (l m:List Int):fst (a::b::c::fst l::d::fst m::[])=if fst ([a,b,c]++l)=0 then(if d=0 then fst m else d)else fst ([a,b,c]++l):=by
 rw [uZ]
 simp only [fst]
 by_cases h1:a=0<;>by_cases h2:b=0<;>by_cases h3:c=0<;>by_cases h4:fst l=0<;>by_cases h5:d=0<;>by_cases h6:fst m=0<;>simp [h1,h2,h3,h4,h5,h6]
theorem gm_nest (a b c:Int) (p:Prop) [Decidable p]:(if(if a=0 then(if(if p then(9:Int)else 0)=0 then b else(if p then 9 else 0))else a)=0 then c else(if a=0 then(if(if p then(9:Int)else 0)=0 then b else(if p then 9 else 0))else a))=if a=0 then(if p then 9 else if b=0 then c else b)else a:=by
 by_cases h1:a=0<;>by_cases h2:p<;>by_cases h3:b=0<;>simp [h1,h2,h3]
theorem s9 (g:Gm) (hl:g.l.length<1000) (hb:ByG g):Sz9 (g,())=some (gmE g):=by
 show Ez9 64 g=_
 unfold Ez9 Tz9
 simp only [TS]
 show Ez9J g (63+1) .k3=_
 rw [Ez9J_s]
 have q1:=s36 [g.n] (by simp) (by simpa using hb.n)
 have q2:=s36 [g.t0,g.t1] (by simp) (by
  intro s hs
  have:s=g.t0∨s=g.t1:=by simpa using hs
  rcases this with rfl|rfl
  · exact hb.t0
  · exact hb.t1)
 have en:nms [g.n]=nm g.n:=by simp [nms,nm]
 have q30:=s30 [nm g.n,ck 1 999999999 g.v,ck 0 99999 g.d,fst [nm g.t0,nm g.t1],(if g.t0=g.t1 then 9 else 0),fst [ck 0 999 g.s0,ck 0 999 g.s1],ajU g] (by simp)
 simp only [Tz9J,TS,q1,q2,en,nms2,s37 1 999999999 [g.v] (by simp),s37 0 99999 [g.d] (by simp),s37 0 999 [g.s0,g.s1] (by simp),rg1,rg2,s38,s39 g hl hb.l,q30,obind_some]
 refine congrArg some ?_
 have e:=uZ [nm g.n,ck 1 999999999 g.v,ck 0 99999 g.d,fst [nm g.t0,nm g.t1],(if g.t0=g.t1 then 9 else 0),fst [ck 0 999 g.s0,ck 0 999 g.s1]] [ajU g]
 refine e.trans ?_
 rw [ajf]
 unfold gmE
 have f1:fst [ajU g]=ajU g:=by by_cases q:ajU g=0<;>simp [fst,q]
 rw [f1]
 exact gm_nest _ _ _ _
section
variable {g:Gm}{t:Int}{a0 a1 a2 a3 a4 a5 a6 a7 a8 a9 a10 a11:Int}{n:Nat}
theorem k16_0:cA g t (n+1) (.k16 a0 a1 a2 a3 a4 a5 a6 a7 a8 a9 a10 a11 0)=if ck 0 999 a0=0 then cA g t n (.k16 a0 a1 a2 a3 a4 a5 a6 a7 a8 a9 a10 a11 1)else some (ck 0 999 a0):=by
 rw [cZ]
 have w:w6 (0+1)=1:=by decide
 simp only [iM,TS,f64,obind_some,w,show decide ((0:Int)<12)=true by decide,show((0:Int)==0)=true by decide,cond_true,cond_false,cnz]
theorem k16_1:cA g t (n+1) (.k16 a0 a1 a2 a3 a4 a5 a6 a7 a8 a9 a10 a11 1)=if ck 0 999 a1=0 then cA g t n (.k16 a0 a1 a2 a3 a4 a5 a6 a7 a8 a9 a10 a11 2)else some (ck 0 999 a1):=by
 rw [cZ]
 have w:w6 (1+1)=2:=by decide
 simp only [iM,TS,f64,obind_some,w,show decide ((1:Int)<12)=true by decide,show((1:Int)==0)=false by decide,show((1:Int)==1)=true by decide,cond_true,cond_false,cnz]
theorem k16_2:cA g t (n+1) (.k16 a0 a1 a2 a3 a4 a5 a6 a7 a8 a9 a10 a11 2)=if ck 0 999 a2=0 then cA g t n (.k16 a0 a1 a2 a3 a4 a5 a6 a7 a8 a9 a10 a11 3)else some (ck 0 999 a2):=by
 rw [cZ]
 have w:w6 (2+1)=3:=by decide
 simp only [iM,TS,f64,obind_some,w,show decide ((2:Int)<12)=true by decide,show((2:Int)==0)=false by decide,show((2:Int)==1)=false by decide,show((2:Int)==2)=true by decide,cond_true,cond_false,cnz]
theorem k16_3:cA g t (n+1) (.k16 a0 a1 a2 a3 a4 a5 a6 a7 a8 a9 a10 a11 3)=if ck 0 999 a3=0 then cA g t n (.k16 a0 a1 a2 a3 a4 a5 a6 a7 a8 a9 a10 a11 4)else some (ck 0 999 a3):=by
 rw [cZ]
 have w:w6 (3+1)=4:=by decide
 simp only [iM,TS,f64,obind_some,w,show decide ((3:Int)<12)=true by decide,show((3:Int)==0)=false by decide,show((3:Int)==1)=false by decide,show((3:Int)==2)=false by decide,show((3:Int)==3)=true by decide,cond_true,cond_false,cnz]
theorem k16_4:cA g t (n+1) (.k16 a0 a1 a2 a3 a4 a5 a6 a7 a8 a9 a10 a11 4)=if ck 0 999 a4=0 then cA g t n (.k16 a0 a1 a2 a3 a4 a5 a6 a7 a8 a9 a10 a11 5)else some (ck 0 999 a4):=by
 rw [cZ]
 have w:w6 (4+1)=5:=by decide
 simp only [iM,TS,f64,obind_some,w,show decide ((4:Int)<12)=true by decide,show((4:Int)==0)=false by decide,show((4:Int)==1)=false by decide,show((4:Int)==2)=false by decide,show((4:Int)==3)=false by decide,show((4:Int)==4)=true by decide,cond_true,cond_false,cnz]
theorem k16_5:cA g t (n+1) (.k16 a0 a1 a2 a3 a4 a5 a6 a7 a8 a9 a10 a11 5)=if ck 0 999 a5=0 then cA g t n (.k16 a0 a1 a2 a3 a4 a5 a6 a7 a8 a9 a10 a11 6)else some (ck 0 999 a5):=by
 rw [cZ]
 have w:w6 (5+1)=6:=by decide
 simp only [iM,TS,f64,obind_some,w,show decide ((5:Int)<12)=true by decide,show((5:Int)==0)=false by decide,show((5:Int)==1)=false by decide,show((5:Int)==2)=false by decide,show((5:Int)==3)=false by decide,show((5:Int)==4)=false by decide,show((5:Int)==5)=true by decide,cond_true,cond_false,cnz]
theorem k16_6:cA g t (n+1) (.k16 a0 a1 a2 a3 a4 a5 a6 a7 a8 a9 a10 a11 6)=if ck 0 999 a6=0 then cA g t n (.k16 a0 a1 a2 a3 a4 a5 a6 a7 a8 a9 a10 a11 7)else some (ck 0 999 a6):=by
 rw [cZ]
 have w:w6 (6+1)=7:=by decide
 simp only [iM,TS,f64,obind_some,w,show decide ((6:Int)<12)=true by decide,show((6:Int)==0)=false by decide,show((6:Int)==1)=false by decide,show((6:Int)==2)=false by decide,show((6:Int)==3)=false by decide,show((6:Int)==4)=false by decide,show((6:Int)==5)=false by decide,show((6:Int)==6)=true by decide,cond_true,cond_false,cnz]
theorem k16_7:cA g t (n+1) (.k16 a0 a1 a2 a3 a4 a5 a6 a7 a8 a9 a10 a11 7)=if ck 0 999 a7=0 then cA g t n (.k16 a0 a1 a2 a3 a4 a5 a6 a7 a8 a9 a10 a11 8)else some (ck 0 999 a7):=by
 rw [cZ]
 have w:w6 (7+1)=8:=by decide
 simp only [iM,TS,f64,obind_some,w,show decide ((7:Int)<12)=true by decide,show((7:Int)==0)=false by decide,show((7:Int)==1)=false by decide,show((7:Int)==2)=false by decide,show((7:Int)==3)=false by decide,show((7:Int)==4)=false by decide,show((7:Int)==5)=false by decide,show((7:Int)==6)=false by decide,show((7:Int)==7)=true by decide,cond_true,cond_false,cnz]
theorem k16_8:cA g t (n+1) (.k16 a0 a1 a2 a3 a4 a5 a6 a7 a8 a9 a10 a11 8)=if ck 0 999 a8=0 then cA g t n (.k16 a0 a1 a2 a3 a4 a5 a6 a7 a8 a9 a10 a11 9)else some (ck 0 999 a8):=by
 rw [cZ]
 have w:w6 (8+1)=9:=by decide
 simp only [iM,TS,f64,obind_some,w,show decide ((8:Int)<12)=true by decide,show((8:Int)==0)=false by decide,show((8:Int)==1)=false by decide,show((8:Int)==2)=false by decide,show((8:Int)==3)=false by decide,show((8:Int)==4)=false by decide,show((8:Int)==5)=false by decide,show((8:Int)==6)=false by decide,show((8:Int)==7)=false by decide,show((8:Int)==8)=true by decide,cond_true,cond_false,cnz]
theorem k16_9:cA g t (n+1) (.k16 a0 a1 a2 a3 a4 a5 a6 a7 a8 a9 a10 a11 9)=if ck 0 999 a9=0 then cA g t n (.k16 a0 a1 a2 a3 a4 a5 a6 a7 a8 a9 a10 a11 10)else some (ck 0 999 a9):=by
 rw [cZ]
 have w:w6 (9+1)=10:=by decide
 simp only [iM,TS,f64,obind_some,w,show decide ((9:Int)<12)=true by decide,show((9:Int)==0)=false by decide,show((9:Int)==1)=false by decide,show((9:Int)==2)=false by decide,show((9:Int)==3)=false by decide,show((9:Int)==4)=false by decide,show((9:Int)==5)=false by decide,show((9:Int)==6)=false by decide,show((9:Int)==7)=false by decide,show((9:Int)==8)=false by decide,show((9:Int)==9)=true by decide,cond_true,cond_false,cnz]
theorem k16_10:cA g t (n+1) (.k16 a0 a1 a2 a3 a4 a5 a6 a7 a8 a9 a10 a11 10)=if ck 0 999 a10=0 then cA g t n (.k16 a0 a1 a2 a3 a4 a5 a6 a7 a8 a9 a10 a11 11)else some (ck 0 999 a10):=by
 rw [cZ]
 have w:w6 (10+1)=11:=by decide
 simp only [iM,TS,f64,obind_some,w,show decide ((10:Int)<12)=true by decide,show((10:Int)==0)=false by decide,show((10:Int)==1)=false by decide,show((10:Int)==2)=false by decide,show((10:Int)==3)=false by decide,show((10:Int)==4)=false by decide,show((10:Int)==5)=false by decide,show((10:Int)==6)=false by decide,show((10:Int)==7)=false by decide,show((10:Int)==8)=false by decide,show((10:Int)==9)=false by decide,show((10:Int)==10)=true by decide,cond_true,cond_false,cnz]
theorem k16_11:cA g t (n+1) (.k16 a0 a1 a2 a3 a4 a5 a6 a7 a8 a9 a10 a11 11)=if ck 0 999 a11=0 then cA g t n (.k16 a0 a1 a2 a3 a4 a5 a6 a7 a8 a9 a10 a11 12)else some (ck 0 999 a11):=by
 rw [cZ]
 have w:w6 (11+1)=12:=by decide
 simp only [iM,TS,f64,obind_some,w,show decide ((11:Int)<12)=true by decide,show((11:Int)==0)=false by decide,show((11:Int)==1)=false by decide,show((11:Int)==2)=false by decide,show((11:Int)==3)=false by decide,show((11:Int)==4)=false by decide,show((11:Int)==5)=false by decide,show((11:Int)==6)=false by decide,show((11:Int)==7)=false by decide,show((11:Int)==8)=false by decide,show((11:Int)==9)=false by decide,show((11:Int)==10)=false by decide,show((11:Int)==11)=true by decide,cond_true,cond_false,cnz]
end
theorem rg12 (x:Ln):rg 0 999 (csL x)=fst [ck 0 999 x.c0,ck 0 999 x.c1,ck 0 999 x.c2,ck 0 999 x.c3,ck 0 999 x.c4,ck 0 999 x.c5,ck 0 999 x.c6,ck 0 999 x.c7,ck 0 999 x.c8,ck 0 999 x.c9,ck 0 999 x.c10,ck 0 999 x.c11]:=zZ 0 999 (csL x)
theorem s43 (g:Gm) (k:Nat) (x:Ln) (hx:g.l[k]? = some x) (hl:g.l.length<1000) (hp:x.p.length<1000):Sz43 (g,(k:Int),())=some (lnE g (dH g.l k) x):=by
 show Ez43 64 g (k:Int)=_
 have hlt:k<g.l.length:=(List.getElem?_eq_some_iff.1 hx).1
 unfold Ez43 Tz43
 simp only [TS,eQ hlt,cond_true,Int.toNat_natCast,aM hx,s41 x.p hp,obind_some]
 have fin:cA g (k:Int) 64 (.k16 x.c0 x.c1 x.c2 x.c3 x.c4 x.c5 x.c6 x.c7 x.c8 x.c9 x.c10 x.c11 0)=some (fst [rg 0 999 (csL x),orI (dH g.l k) x]):=by
  have last:∀n,cA g (k:Int) (n+1) (.k16 x.c0 x.c1 x.c2 x.c3 x.c4 x.c5 x.c6 x.c7 x.c8 x.c9 x.c10 x.c11 12)=some (orI (dH g.l k) x):=by
   intro n
   rw [cZ]
   simp only [iM,TS,show decide ((12:Int)<12)=false by decide,cond_false]
   cases k with
   | zero=>rfl
   | succ k=>
     obtain⟨y,hy⟩:=eW (show k<g.l.length by omega)
     have c1:decide ((0:Int)<((k+1:Nat):Int))=true:=by rw [decide_eq_true_eq];omega
     rw [nG,hy,w6p (by omega)]
     simp only [c1,cond_true,eQ (show k<g.l.length by omega),Int.toNat_natCast,aM hx,aM hy,uS,orI]
     cases lessL y.p x.p<;>rfl
  rw [rg12,show(64:Nat)=51+1+12 from rfl]
  rw [show 51+1+12=(51+1+11)+1 from rfl,k16_0]
  by_cases h0:ck 0 999 x.c0=0
  rotate_left
  · rw [if_neg h0];simp only [fst,h0,if_true,if_false]
  rw [if_pos h0]
  rw [show 51+1+11=(51+1+10)+1 from rfl,k16_1]
  by_cases h1:ck 0 999 x.c1=0
  rotate_left
  · rw [if_neg h1];simp only [fst,h1,h0,if_true,if_false]
  rw [if_pos h1]
  rw [show 51+1+10=(51+1+9)+1 from rfl,k16_2]
  by_cases h2:ck 0 999 x.c2=0
  rotate_left
  · rw [if_neg h2];simp only [fst,h2,h0,h1,if_true,if_false]
  rw [if_pos h2]
  rw [show 51+1+9=(51+1+8)+1 from rfl,k16_3]
  by_cases h3:ck 0 999 x.c3=0
  rotate_left
  · rw [if_neg h3];simp only [fst,h3,h0,h1,h2,if_true,if_false]
  rw [if_pos h3]
  rw [show 51+1+8=(51+1+7)+1 from rfl,k16_4]
  by_cases h4:ck 0 999 x.c4=0
  rotate_left
  · rw [if_neg h4];simp only [fst,h4,h0,h1,h2,h3,if_true,if_false]
  rw [if_pos h4]
  rw [show 51+1+7=(51+1+6)+1 from rfl,k16_5]
  by_cases h5:ck 0 999 x.c5=0
  rotate_left
  · rw [if_neg h5];simp only [fst,h5,h0,h1,h2,h3,h4,if_true,if_false]
  rw [if_pos h5]
  rw [show 51+1+6=(51+1+5)+1 from rfl,k16_6]
  by_cases h6:ck 0 999 x.c6=0
  rotate_left
  · rw [if_neg h6];simp only [fst,h6,h0,h1,h2,h3,h4,h5,if_true,if_false]
  rw [if_pos h6]
  rw [show 51+1+5=(51+1+4)+1 from rfl,k16_7]
  by_cases h7:ck 0 999 x.c7=0
  rotate_left
  · rw [if_neg h7];simp only [fst,h7,h0,h1,h2,h3,h4,h5,h6,if_true,if_false]
  rw [if_pos h7]
  rw [show 51+1+4=(51+1+3)+1 from rfl,k16_8]
  by_cases h8:ck 0 999 x.c8=0
  rotate_left
  · rw [if_neg h8];simp only [fst,h8,h0,h1,h2,h3,h4,h5,h6,h7,if_true,if_false]
  rw [if_pos h8]
  rw [show 51+1+3=(51+1+2)+1 from rfl,k16_9]
  by_cases h9:ck 0 999 x.c9=0
  rotate_left
  · rw [if_neg h9];simp only [fst,h9,h0,h1,h2,h3,h4,h5,h6,h7,h8,if_true,if_false]
  rw [if_pos h9]
  rw [show 51+1+2=(51+1+1)+1 from rfl,k16_10]
  by_cases h10:ck 0 999 x.c10=0
  rotate_left
  · rw [if_neg h10];simp only [fst,h10,h0,h1,h2,h3,h4,h5,h6,h7,h8,h9,if_true,if_false]
  rw [if_pos h10]
  rw [show 51+1+1=(51+1+0)+1 from rfl,k16_11]
  by_cases h11:ck 0 999 x.c11=0
  rotate_left
  · rw [if_neg h11];simp only [fst,h11,h0,h1,h2,h3,h4,h5,h6,h7,h8,h9,h10,if_true,if_false]
  rw [if_pos h11]
  rw [last]
  simp only [fst,h0,h1,h2,h3,h4,h5,h6,h7,h8,h9,h10,h11,if_true]
  by_cases h:orI (dH g.l k) x=0<;>simp [h]
 show cond (!(nm x.p==0)) (some (nm x.p)) (cond (!decide (x.t=g.t0)) (cond (!decide (x.t=g.t1)) (some 10) (cA g (k:Int) 64 (.k16 x.c0 x.c1 x.c2 x.c3 x.c4 x.c5 x.c6 x.c7 x.c8 x.c9 x.c10 x.c11 0))) (cA g (k:Int) 64 (.k16 x.c0 x.c1 x.c2 x.c3 x.c4 x.c5 x.c6 x.c7 x.c8 x.c9 x.c10 x.c11 0)))=_
 rw [fin]
 unfold lnE tm
 by_cases h1:nm x.p=0
 · by_cases h2:x.t=g.t0
   · simp [h1,h2,fst]
   · by_cases h3:x.t=g.t1
     · simp [h1,h2,h3,fst]
     · simp [h1,h2,h3,fst]
 · rw [cnz,if_neg h1];simp [h1,fst]
theorem s11_j (g:Gm) (hl:g.l.length≤60) (hp:∀x∈g.l,x.p.length<1000):∀j n k,k+j=g.l.length→ax0 g (n+j+1) (.k24 (k:Int))=some (lnsE g (dH g.l k) (g.l.drop k)):=by
 intro j
 induction j with
 | zero=>
   intro n k hk
   rw [ajR]
   simp only [ajN,TS,j4 (show ¬k<g.l.length by omega),cond_false,List.drop_eq_nil_of_le (show g.l.length≤k by omega)];rfl
 | succ j ih=>
   intro n k hk
   have hlt:k<g.l.length:=by omega
   obtain⟨x,hx⟩:=eW hlt
   rw [show n+(j+1)+1=(n+j+1)+1 by omega,ajR]
   simp only [ajN,TS,j3 hlt,cond_true,s43 g k x hx (by omega) (hp x (List.mem_of_getElem? hx)),obind_some,w6s (show k<9223372036854775807 by omega),sU hx,cnz]
   rw [ih n (k+1) (by omega)]
   by_cases h:lnE g (dH g.l k) x=0
   · rw [if_pos h,if_pos h]
   · rw [if_neg h,if_neg h]
structure LnG (g:Gm):Prop where
 n:g.n.length<1000
 t0:g.t0.length<1000
 t1:g.t1.length<1000
 l:∀x∈g.l,x.p.length<1000
 c:g.l.length<1000
theorem s11 (g:Gm) (h:LnG g):Sz11 (g,())=some (gmE g):=by
 show Ez11 (g.l.length+64) g=_
 unfold Ez11 Tz11
 have q1:=s65 [nm g.n,ck 1 999999999 g.v,ck 0 99999 g.d,nm g.t0,nm g.t1] (by simp)
 have q2:=s65 [ck 0 999 g.s0,ck 0 999 g.s1] (by simp)
 simp only [TS,s41 _ h.n,s41 _ h.t0,s41 _ h.t1,f64,obind_some,q1,q2]
 unfold gmE ajU
 simp only [cnz]
 by_cases h1:fst [nm g.n,ck 1 999999999 g.v,ck 0 99999 g.d,nm g.t0,nm g.t1]=0
 rotate_left
 · rw [if_neg h1,if_neg h1]
 rw [if_pos h1,if_pos h1]
 by_cases h2:g.t0=g.t1
 · rw [show decide (g.t0=g.t1)=true by simpa using h2,cond_true,if_pos h2]
 rw [show decide (g.t0=g.t1)=false by simpa using h2,cond_false,if_neg h2]
 by_cases h3:fst [ck 0 999 g.s0,ck 0 999 g.s1]=0
 rotate_left
 · rw [if_neg h3,if_neg h3]
 rw [if_pos h3,if_pos h3]
 by_cases h4:60<g.l.length
 · rw [show decide ((60:Int)<((g.l.length:Nat):Int))=true by simp;omega,cond_true,if_pos h4]
 · have:=s11_j g (by omega) h.l g.l.length 63 0 (by omega)
   rw [List.drop_zero,nc0]at this
   rw [show decide ((60:Int)<((g.l.length:Nat):Int))=false by simp;omega,cond_false,if_neg h4,fu]
   exact this
end
end Go.Ev
