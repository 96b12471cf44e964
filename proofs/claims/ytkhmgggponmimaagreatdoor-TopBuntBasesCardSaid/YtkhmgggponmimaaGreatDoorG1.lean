import Derived.Test.YtkhmgggponmimaaGreatDoorEvE
import Derived.Test.YtkhmgggponmimaaGreatDoorDQX
import Derived.Test.YtkhmgggponmimaaGreatDoorDCE
import Derived.Test.YtkhmgggponmimaaGreatDoorDG1
import Derived.Test.YtkhmgggponmimaaGreatDoorTypes
set_option linter.unusedSimpArgs false
set_option linter.unusedVariables false
namespace Go.Ev
open Go.RowKit Go.Proofs
set_option maxRecDepth 20000
set_option maxHeartbeats 8000000
def rowP (q:Pl):List EVal:=[.str q.p,.str q.e,.bool q.l,.lsl (yM q.m)]
def u7 (l:List Pl):List (List EVal):=l.map rowP
def lS (l:List St):List (List EVal):=l.map eSt
theorem rowsP_length (l:List Pl):(u7 l).length=l.length:=by simp [u7]
theorem rowsP_get (l:List Pl) (i:Nat):(u7 l)[i]? = (l[i]?).map rowP:=by simp [u7]
theorem vPls_c (l:List Pl):((Cod.list pl0 rPl).v l).c=.lsl (u7 l):=by
 have h1:(V.el (l.map rPl.v)).c=((Cod.list pl0 rPl).v l).c:=aR
 refine h1.symm.trans ?_
 rw [V.c,V.css_map,List.map_map,u7]
 refine congrArg EVal.lsl (List.map_congr_left fun p _=>?_)
 have h:=vPl_c p
 have e:((Cod.agg rPl).v p).c=.agg (V.cs (rPl.v p)):=by show(V.agg (rPl.v p)).c=_;rw [V.c]
 rw [e]at h
 exact EVal.agg.inj h
theorem vSts_c (l:List St):((Cod.list st0 rSt).v l).c=.lsl (lS l):=by
 have h1:(V.el (l.map rSt.v)).c=((Cod.list st0 rSt).v l).c:=aR
 refine h1.symm.trans ?_
 rw [V.c,V.css_map,List.map_map,lS]
 exact congrArg EVal.lsl (List.map_congr_left fun p _=>aw3 p)
noncomputable def eE (s:St) (t:Pl):Int:=aq1 s t (brk s t)
noncomputable def nN (s:St) (t:Pl):Int:=numA s t (brk s t)
noncomputable def eTn (x:Tn):List EVal:=V.cs (rTn.v x)
noncomputable def F85:List EVal→Option EVal:=fOf Az85 (Cod.tup (Row.cons (Cod.opt rTn) (Row.cons cI (Row.cons cI Row.nil)))) Sz85
theorem fn85:FnT 25 F85:=Kz85.ok
noncomputable def F86:List EVal→Option EVal:=fOf Az86 (Cod.agg rSt) Sz86
theorem fn86:FnT 39 F86:=Kz86.ok
noncomputable def F22:List EVal→Option EVal:=fOf Az22 (Cod.agg rSt) Sz22
theorem fn22:FnT 36 F22:=Kz22.ok
def cD:St:=⟨1,0,0,0,0,0,0,0,1,1,0,0,false⟩
theorem e22:F22 []=some (.agg (eSt cD)):=by
 have e:V.cs (Az22.v ())=[]:=by show V.cs []=_;rw [V.cs]
 have h:fOf Az22 (Cod.agg rSt) Sz22 (V.cs (Az22.v ()))=some (.agg (eSt cD)):=by
  unfold fOf
  rw [Az22.rt,Option.bind_some]
  have:Sz22 ()=some cD:=rfl
  rw [this]
  show some ((V.agg (rSt.v cD)).c)=_
  rw [V.c,aw3]
 rw [e]at h
 exact h
section
variable {s:St}{t:Pl}
theorem a85:V.cs (Az85.v (s,t,()))=[.agg (eSt s),.agg (rowP t)]:=by
 show V.cs [V.agg (rSt.v s),(Cod.agg rPl).v t]=_
 rw [V.cs,V.cs,V.cs,vPl_c]
 simp only [V.c,aw3];rfl
theorem e85 (ok:okP t):F85 [.agg (eSt s),.agg (rowP t)]=some (((Cod.tup (Row.cons (Cod.opt rTn) (Row.cons cI (Row.cons cI Row.nil)))).v (accR s t (brk s t))).c):=by
 rw [←a85]
 unfold F85 fOf
 rw [Az85.rt,Option.bind_some,s85 ok (yZ ok).1];rfl
theorem e85_bad (ok:okP t) (h:eE s t≠0):F85 [.agg (eSt s),.agg (rowP t)]=some (.tup [.nilp,.int .i64 (nN s t),.int .i64 (eE s t)]):=by
 rw [e85 ok]
 rcases acc_cases s t (brk s t)with⟨_,h2⟩ | ⟨h1,_⟩
 · rw [h2]
   show some ((V.tup [V.raw .nilp,V.int .i64 (nN s t),V.int .i64 (eE s t)]).c)=_
   simp only [V.c,V.cs]
 · exact absurd h1 h
theorem ayG (ok:okP t) (h:eE s t=0):F85 [.agg (eSt s),.agg (rowP t)]=some (.tup [.lptr (eTn (eF s t)) 0,.int .i64 0,.int .i64 0]):=by
 rw [e85 ok]
 rcases acc_cases s t (brk s t)with⟨h1,_⟩ | ⟨_,_,_,h2⟩
 · exact absurd h h1
 · rw [h2]
   show some ((V.tup [V.lptr (rTn.v (eF s t)) 0,V.int .i64 0,V.int .i64 0]).c)=_
   simp only [V.c,V.cs,eTn]
structure Acc (s:St) (t:Pl):Prop where
 st:stE s=0
 pl:playE t.p t.e t.m=0
 on:s.over=false
 mv:aC t.m=0
 ev:vEv t.e
 len:t.p.length≤24
 good:gH s t
 big:bq3 s t=false
theorem akg (ok:okP t) (h:eE s t=0):Acc s t:=by
 rcases acc_cases s t (brk s t)with⟨h1,_⟩ | ⟨h1,h2,h3,_⟩
 · exact absurd h h1
 · obtain ⟨e1,e2,e3⟩:=jG h2
   obtain⟨p1,p2,p3⟩:=playE_zero e2
   refine⟨e1,e2,e3,p3,p2,p1,(yZ ok).2 h3 h2,?_⟩
   unfold aq1 at h1
   cases hx:bq3 s t with
   | false=>rfl
   | true=>simp [h2,h3,hx]at h1
theorem e86 (ok:okP t) (h:eE s t=0):F86 [.lptr (eTn (eF s t)) 0]=some (.agg (eSt (nxt (mvd s t)))):=by
 have A:=akg ok h
 have e:V.cs (Az86.v (eF s t,()))=[.lptr (eTn (eF s t)) 0]:=by
  show V.cs [V.lptr (rTn.v (eF s t)) 0]=_
  simp only [V.cs,V.c,eTn]
 rw [←e]
 unfold F86 fOf
 rw [Az86.rt,Option.bind_some,s86 A.mv (vO A.st).half A.good]
 show some ((V.agg (rSt.v _)).c)=_
 rw [V.c,aw3]
theorem aya (A:Acc s t):stE (nxt (mvd s t))=0:=by
 have n:Num s:=qP.1 ⟨(hJ A.st).1,(hJ A.st).2.1,(hJ A.st).2.2.1⟩
 have F:awY s:=uX.1 (hJ A.st).2.2.2.2
 exact nxt_ok (num_mvd A.mv A.good n A.big) A.on (fit_mvd A.mv A.good n.good F)
end
abbrev GameR:=List St×Nat×Int×Int
noncomputable def yD:Nat→List St→St→List Pl→GameR
 | _,acc,_,[]=>(acc,0,0,0)
 | i,acc,s,t::L=>if eE s t≠0 then([],i,nN s t,eE s t)else yD (i+1) (acc++[nxt (mvd s t)]) (nxt (mvd s t)) L
theorem nI {i:Nat}{acc:List St}{s:St}{t:Pl}{L:List Pl}:yD i acc s (t::L)=if eE s t≠0 then([],i,nN s t,eE s t)else yD (i+1) (acc++[nxt (mvd s t)]) (nxt (mvd s t)) L:=rfl
noncomputable def game (L:List Pl):GameR:=if 256<L.length then([],0,0,5)else yD 0 [cD] cD L
theorem aw6:stE cD=0:=by decide +kernel
end Go.Ev
