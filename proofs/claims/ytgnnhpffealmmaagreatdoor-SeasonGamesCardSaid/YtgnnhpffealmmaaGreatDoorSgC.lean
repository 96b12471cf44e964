import Derived.Test.YtgnnhpffealmmaaGreatDoorSgB
set_option linter.unusedSimpArgs false
set_option linter.unusedVariables false
namespace Go.Ev
open Go.RowKit Go.Proofs
set_option maxRecDepth 100000
set_option maxHeartbeats 4000000
set_option linter.unusedSimpArgs false
set_option linter.unusedVariables false
noncomputable section
def fnd (n:List Nat) (l:List Gm):Bool:=l.any fun g=>decide (g.n=n)
theorem xO {p:Gm→Bool}{l:List Gm}{k:Nat}{x:Gm}(h:l[k]? = some x):(l.drop k).any p=(p x||(l.drop (k+1)).any p):=by
 obtain⟨hk,rfl⟩:=List.getElem?_eq_some_iff.1 h
 rw [List.drop_eq_getElem_cons hk,List.any_cons]
theorem s34_j (l:List Gm) (nm:List Nat) (hl:l.length<1000):∀j n k,k+j=l.length→∃r:Int,axZ l nm (n+j+1) (.k4 (k:Int))=some r∧decide (0≤r)=fnd nm (l.drop k):=by
 intro j
 induction j with
 | zero=>
   intro n k hk
   rw [ajP,List.drop_eq_nil_of_le (show l.length≤k by omega)]
   simp only [ajM,TS,j4 (show ¬k<l.length by omega),cond_false]
   exact⟨-1,rfl,rfl⟩
 | succ j ih=>
   intro n k hk
   have hlt:k<l.length:=by omega
   obtain⟨x,hx⟩:=eW hlt
   rw [show n+(j+1)+1=(n+j+1)+1 by omega,ajP]
   simp only [ajM,TS,j3 hlt,eQ hlt,cond_true,Int.toNat_natCast,aM hx,w6s (show k<9223372036854775807 by omega)]
   unfold fnd at ih ⊢
   rw [xO hx]
   by_cases h:x.n=nm
   · rw [show decide (x.n=nm)=true by simpa using h]
     exact⟨(k:Int),rfl,by simp⟩
   · rw [show decide (x.n=nm)=false by simpa using h]
     simp only [cond_false,Bool.false_or]
     exact ih n (k+1) (by omega)
theorem s34 (l:List Gm) (nm:List Nat) (hl:l.length<1000):∃r:Int,Sz34 (l,nm,())=some r∧decide (0≤r)=fnd nm l:=by
 obtain⟨r,e1,e2⟩:=s34_j l nm hl l.length (nm.length+63) 0 (by omega)
 rw [List.drop_zero]at e2
 refine⟨r,?_,e2⟩
 show Ez34 (l.length+nm.length+64) l nm=_
 unfold Ez34 Tz34
 simp only [TS]
 rw [show l.length+nm.length+64=nm.length+63+l.length+1 by omega]
 exact e1
theorem s84_j (l:List Gm) (nm:List Nat) (hl:l.length<1000):∀j n k,k+j=l.length→∃r:Int,mZ l ((nm,()),()) (n+j+1) (.k4 (k:Int))=some r∧decide (0≤r)=fnd nm (l.drop k):=by
 intro j
 induction j with
 | zero=>
   intro n k hk
   rw [p7,List.drop_eq_nil_of_le (show l.length≤k by omega)]
   simp only [kD,TS,j4 (show ¬k<l.length by omega),cond_false]
   exact⟨-1,rfl,rfl⟩
 | succ j ih=>
   intro n k hk
   have hlt:k<l.length:=by omega
   obtain⟨x,hx⟩:=eW hlt
   have e85:Sz85 (x,(nm,()),())=some (decide (x.n=nm)):=rfl
   rw [show n+(j+1)+1=(n+j+1)+1 by omega,p7]
   simp only [kD,TS,j3 hlt,eQ hlt,cond_true,Int.toNat_natCast,aM hx,w6s (show k<9223372036854775807 by omega),e85,obind_some]
   unfold fnd at ih ⊢
   rw [xO hx]
   by_cases h:x.n=nm
   · rw [show decide (x.n=nm)=true by simpa using h]
     exact⟨(k:Int),rfl,by simp⟩
   · rw [show decide (x.n=nm)=false by simpa using h]
     simp only [cond_false,Bool.false_or]
     exact ih n (k+1) (by omega)
theorem s31 (l:List Gm) (nm:List Nat) (hl:l.length<1000):Sz31 (⟨l⟩,nm,())=some (if fnd nm l=true then 9 else 0):=by
 obtain⟨r,e1,e2⟩:=s84_j l nm hl l.length 63 0 (by omega)
 rw [List.drop_zero]at e2
 have e84:vY (l,((nm,()),()),())=some r:=by
  show v6 (l.length+64) l ((nm,()),())=_
  unfold v6 vV
  simp only [TS]
  rw [fu]
  exact e1
 have e48:Sz48 (⟨l⟩,nm,())=some r:=by
  show Ez48 (nm.length+64) ⟨l⟩ nm=_
  unfold Ez48 Tz48
  simp only [TS]
  rw [fu,show 63+nm.length+1=(63+nm.length)+1 from rfl,Ez48J_s]
  simp only [axI,TS,e84,obind_some]
 show(Tz31 ⟨l⟩ nm).d noE=_
 simp only [Tz31,TS,e48,obind_some,e2]
 cases fnd nm l<;>rfl
def befB (a b:Gm):Bool:=decide (a.d<b.d)||(a.d==b.d&&lessL a.n b.n)
theorem s35 (a b:Gm):Sz35 (a,b,())=some (befB a b):=by
 show(Tz35 a b).d noE=_
 simp only [Tz35,TS,befB]
 by_cases h:a.d<b.d
 · simp [h]
 · by_cases h2:a.d=b.d
   · simp [h2]
   · rw [show(a.d==b.d)=false by simpa using h2];simp [h]
theorem s91 (a b:Int):Sz91 (a,b,())=some (if a<b then -1 else if b<a then 1 else 0):=by
 have n:∀x:Int,axT (x,())=some false:=fun x=>by
  show(axK x).d noE=_
  simp [axK,TS]
 show(Tz91 a b).d noE=_
 simp only [Tz91,TS,n,obind_some,cond_false]
 by_cases h:a<b
 · simp [h]
 · by_cases h2:b<a<;>simp [h,h2]
theorem s82 (a b:List Nat):Sz82 (a,b,())=some (if lessL a b=true then -1 else if lessL b a=true then 1 else 0):=by
 have n:∀x:List Nat,axU (x,())=some false:=fun x=>by
  show(axL x).d noE=_
  simp [axL,TS]
 show(Tz82 a b).d noE=_
 simp only [Tz82,TS,n,obind_some,cond_false,uS,Bool.not_not]
 cases lessL a b<;>cases lessL b a<;>rfl
theorem s72 (a b:Gm):∃r:Int,Sz72 (a,b,())=some r∧decide (0≤r)=!befB a b:=by
 refine⟨fst [if a.d<b.d then -1 else if b.d<a.d then 1 else 0,if lessL a.n b.n=true then -1 else if lessL b.n a.n=true then 1 else 0],?_,?_⟩
 · show (Tz72 a b).d noE=_
   simp only [Tz72,TS,s91,s82,obind_some,s95 [if a.d<b.d then -1 else if b.d<a.d then 1 else 0,if lessL a.n b.n=true then -1 else if lessL b.n a.n=true then 1 else 0] (by simp)]
 · unfold befB
   by_cases h:a.d<b.d
   · simp [fst,h]
   · by_cases h2:b.d<a.d
     · have h3:¬a.d=b.d:=by omega
       simp [fst,h,h2,h3]
     · have h3:a.d=b.d:=by omega
       simp only [fst,h,h2,if_false,if_true]
       cases h4:lessL a.n b.n with
       | true=>simp [h3]
       | false=>
         cases h5:lessL b.n a.n<;>simp [h3]
def ltI (p:Option Gm) (g:Gm):Int:=match p with
 | none=>0
 | some y=>if befB y g=true then 0 else 11
theorem s32 (l:List Gm) (k:Nat) (hk:k≤l.length) (hl:l.length<1000) (g:Gm):Sz32 (⟨l.take k⟩,g,())=some (ltI (dH l k) g):=by
 show(Tz32 ⟨l.take k⟩ g).d noE=_
 have e:(l.take k).length=k:=by rw [List.length_take];omega
 simp only [Tz32,TS,e]
 cases k with
 | zero=>simp [dH,ltI]
 | succ k=>
   obtain⟨y,hy⟩:=eW (show k<l.length by omega)
   rw [nG,hy,w6p (by omega)]
   have c1:decide ((0:Int)<((k+1:Nat):Int))=true:=by rw [decide_eq_true_eq];omega
   obtain⟨r,e1,e2⟩:=s72 y g
   simp only [c1,eQ (show k<k+1 by omega),cond_true,Int.toNat_natCast,sX (show k<l.length by omega),aM hy,e1,e2,obind_some,ltI]
   cases befB y g<;>rfl
def oneE (l:List Gm) (k:Nat) (g:Gm):Int:=if gmE g=0 then(if fnd g.n (l.take k)=true then 9 else ltI (dH l k) g)else gmE g
def bkE (l:List Gm):Nat→Nat→Int
 | 0,_=>0
 | j+1,k=>if oneE l k (l.getD k gm0)=0 then bkE l j (k+1)else oneE l k (l.getD k gm0)
def axC (l:List Gm):Int:=if 64<l.length then 5 else bkE l l.length 0
structure Ok (g:Gm):Prop where
 b:ByG g
 l:LnG g
theorem a31 (l:List Gm) (k:Nat) (hk:k≤l.length) (n:List Nat):Az31.ok [.agg [.fl 8 k fun i=>rGm.v (l.getD (0+i) gm0)],.str n]=true∧Az31.dec [.agg [.fl 8 k fun i=>rGm.v (l.getD (0+i) gm0)],.str n]=(⟨l.take k⟩,n,()):=by
 constructor
 · have h:=ajg (d:=gm0) (A:=rGm) (hk:=rfl) l k
   refine(Bool.and_eq_true_iff (x:=(Cod.agg rBk).ok _)).2 ⟨?_,rfl⟩
   exact Bool.and_eq_true_iff.2 ⟨h,rfl⟩
 · exact Prod.ext (congrArg Bk.mk (wV (d:=gm0) (A:=rGm) (hk:=rfl) l hk)) (Prod.ext rfl rfl)
theorem a32 (l:List Gm) (k:Nat) (hk:k≤l.length) (g:Gm):Az32.ok [.agg [.fl 8 k fun i=>rGm.v (l.getD (0+i) gm0)],.agg [.str g.n,.int .i64 g.v,.int .i64 g.d,.str g.t0,.str g.t1,.int .i64 g.s0,.int .i64 g.s1,(Cod.list ln0 rLn).v g.l]]=true∧Az32.dec [.agg [.fl 8 k fun i=>rGm.v (l.getD (0+i) gm0)],.agg [.str g.n,.int .i64 g.v,.int .i64 g.d,.str g.t0,.str g.t1,.int .i64 g.s0,.int .i64 g.s1,(Cod.list ln0 rLn).v g.l]]=(⟨l.take k⟩,g,()):=by
 constructor
 · have h:=ajg (d:=gm0) (A:=rGm) (hk:=rfl) l k
   refine(Bool.and_eq_true_iff (x:=(Cod.agg rBk).ok _)).2 ⟨Bool.and_eq_true_iff.2 ⟨h,rfl⟩,?_⟩
   exact Bool.and_eq_true_iff.2 ⟨Cod.okv (Cod.agg rGm) g,rfl⟩
 · exact Prod.ext (congrArg Bk.mk (wV (d:=gm0) (A:=rGm) (hk:=rfl) l hk)) (Prod.ext ((Cod.agg rGm).dv g) rfl)
theorem s6_j (l:List Gm) (hl:l.length≤64) (hb:∀g∈l,Ok g):∀j n k,k+j=l.length→Ez6J ⟨l⟩ (n+2*j+1) (.k8 ((l.length:Nat):Int) (k:Int))=some (bkE l j k):=by
 intro j
 induction j with
 | zero=>
   intro n k hk
   rw [xR]
   simp only [Tz6J,TS,j4 (show ¬k<l.length by omega),cond_false];rfl
 | succ j ih=>
   intro n k hk
   have hlt:k<l.length:=by omega
   obtain⟨g,hg⟩:=eW hlt
   have ok:=hb g (List.mem_of_getElem? hg)
   have c3:(decide ((0:Int)≤(k:Int))&&decide ((k:Int)≤((l.length:Nat):Int)))=true:=by simp;omega
   have e30:=s30 [gmE g,(if fnd g.n (l.take k)=true then 9 else 0),ltI (dH l k) g] (by simp)
   have e9:Sz9 ((⟨g.n,g.v,g.d,g.t0,g.t1,g.s0,g.s1,g.l⟩:Gm),())=some (gmE g):=s9 g ok.l.c ok.b
   rw [show n+2*(j+1)+1=(n+2*j+1+1)+1 by omega,xR]
   simp only [Tz6J,TS,j3 hlt,eQ hlt,cond_true,Int.toNat_natCast,aM hg,c3,Nat.sub_zero]
   rw [xR]
   simp only [Tz6J,TS,Tr.d_v,e9,obind_some,cond_true,(a31 l k (by omega) g.n).1,(a31 l k (by omega) g.n).2,(a32 l k (by omega) g).1,(a32 l k (by omega) g).2,s31 (l.take k) g.n (by rw [List.length_take];omega),s32 l k (by omega) (by omega) g,e30,w6s (show k<9223372036854775807 by omega),cnz]
   rw [ih n (k+1) (by omega)]
   have e:fst [gmE g,(if fnd g.n (l.take k)=true then 9 else 0),ltI (dH l k) g]=oneE l k g:=by
    unfold oneE
    by_cases h1:gmE g=0
    · cases h2:fnd g.n (l.take k)
      · by_cases h3:ltI (dH l k) g=0<;>simp [fst,h1,h3]
      · simp [fst,h1]
    · simp [fst,h1]
   rw [e,bkE,aM hg]
   by_cases h:oneE l k g=0
   · rw [if_pos h,if_pos h]
   · rw [if_neg h,if_neg h]
theorem s6 (l:List Gm) (hl:l.length<1000) (hb:∀g∈l,Ok g):Sz6 (⟨l⟩,())=some (axC l):=by
 show Ez6 (l.length+l.length+64) ⟨l⟩=_
 unfold Ez6 Tz6 axC
 simp only [TS]
 rw [show l.length+l.length+64=(62+2*l.length+1)+1 by omega,xR]
 simp only [Tz6J,TS]
 by_cases h:64<l.length
 · rw [show decide ((64:Int)<((l.length:Nat):Int))=true by simp;omega,cond_true,if_pos h]
 · rw [show decide ((64:Int)<((l.length:Nat):Int))=false by simp;omega,cond_false,if_neg h]
   have:=s6_j l (by omega) hb l.length 62 0 (by omega)
   rw [nc0]at this
   exact this
theorem s8_j (l:List Gm) (hl:l.length≤64) (hb:∀g∈l,Ok g):∀j n k,k+j=l.length→Ez8J l (n+j+1) (.k8 (k:Int))=some (bkE l j k):=by
 intro j
 induction j with
 | zero=>
   intro n k hk
   rw [axp]
   simp only [Tz8J,TS,j4 (show ¬k<l.length by omega),cond_false];rfl
 | succ j ih=>
   intro n k hk
   have hlt:k<l.length:=by omega
   obtain⟨g,hg⟩:=eW hlt
   have ok:=hb g (List.mem_of_getElem? hg)
   have c3:(decide ((0:Int)≤(k:Int))&&decide ((k:Int)≤((l.length:Nat):Int)))=true:=by simp;omega
   obtain⟨r,e1,e2⟩:=s34 (l.take k) g.n (by rw [List.length_take];omega)
   have a34:Az34.ok [.fl 8 k fun i=>rGm.v (l.getD (0+i) gm0),.str g.n]=true∧Az34.dec [.fl 8 k fun i=>rGm.v (l.getD (0+i) gm0),.str g.n]=(l.take k,g.n,()):=
    ⟨(Bool.and_eq_true_iff (x:=(Cod.list gm0 rGm).ok _)).2 ⟨ajg (d:=gm0) (hk:=rfl) l k,rfl⟩,Prod.ext (wV (d:=gm0) (hk:=rfl) l (by omega)) (Prod.ext rfl rfl)⟩
   rw [show n+(j+1)+1=(n+j+1)+1 by omega,axp]
   simp only [Tz8J,TS,Tr.d_v,j3 hlt,eQ hlt,cond_true,Int.toNat_natCast,aM hg,s11 g ok.l,obind_some,c3,Nat.sub_zero,a34.1,a34.2,e1,e2,w6s (show k<9223372036854775807 by omega),cnz]
   rw [bkE,aM hg]
   unfold oneE
   by_cases h1:gmE g=0
   rotate_left
   · rw [if_neg h1,if_neg h1,if_neg h1]
   rw [if_pos h1,if_pos h1]
   cases h2:fnd g.n (l.take k)with
   | true=>rfl
   | false=>
     simp only [cond_false,Bool.false_eq_true,if_false]
     have ih':=ih n (k+1) (by omega)
     cases k with
     | zero=>
       show Ez8J l (n+j+1) (.k8 (((0+1:Nat):Nat):Int))=_
       rw [ih'];rfl
     | succ k=>
       obtain⟨y,hy⟩:=eW (show k<l.length by omega)
       have c1:decide ((0:Int)<((k+1:Nat):Int))=true:=by rw [decide_eq_true_eq];omega
       rw [nG,hy,w6p (by omega)]
       simp only [c1,cond_true,eQ (show k<l.length by omega),Int.toNat_natCast,aM hy,s35,obind_some,ltI]
       by_cases hb:befB y g=true
       · simp only [hb,Bool.not_true,cond_false,if_true];exact ih'
       · have hb:befB y g=false:=by simpa using hb
         simp [hb]
theorem s8 (l:List Gm) (hl:l.length<1000) (hb:∀g∈l,Ok g):Sz8 (l,())=some (axC l):=by
 show Ez8 (l.length+64) l=_
 unfold Ez8 Tz8 axC
 simp only [TS]
 by_cases h:64<l.length
 · rw [show decide ((64:Int)<((l.length:Nat):Int))=true by simp;omega,cond_true,if_pos h]
 · rw [show decide ((64:Int)<((l.length:Nat):Int))=false by simp;omega,cond_false,if_neg h]
   have:=s8_j l (by omega) hb l.length 63 0 (by omega)
   rw [nc0]at this
   rw [fu]
   exact this
end
end Go.Ev
