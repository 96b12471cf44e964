import Derived.Test.YtgjbmohchdmdkaaGreatDoorDCF
set_option linter.unusedSimpArgs false
set_option linter.unusedVariables false
namespace Go.Ev
open Go.RowKit Go.Proofs
set_option maxRecDepth 100000
set_option maxHeartbeats 8000000
set_option linter.unusedSimpArgs false
set_option linter.unusedVariables false
noncomputable section
section
variable {s:St}{t:Pl}
def awQ (s x:St) (d r:Int):Prop:=(s.half=0∧x.c0=IntKind.i64.wrap (s.c0+r)∧x.c1=s.c1∧x.n0=IntKind.i64.wrap ((IntKind.i64.wrap (IntKind.i64.wrap (s.n0+d)-1)).tmod 9+1)∧x.n1=s.n1)∨(s.half=1∧x.c1=IntKind.i64.wrap (s.c1+r)∧x.c0=s.c0∧x.n1=IntKind.i64.wrap ((IntKind.i64.wrap (IntKind.i64.wrap (s.n1+d)-1)).tmod 9+1)∧x.n0=s.n0)
theorem gt0 (a b:Int):[a,b].getD (Int.toNat 0) 0=a:=rfl
theorem gt1 (a b:Int):[a,b].getD (Int.toNat 1) 0=b:=rfl
theorem in0:inR 0 2=true:=rfl
theorem in1:inR 1 2=true:=rfl
theorem w10:IntKind.i64.wrap (1-0)=1:=by decide
theorem w11:IntKind.i64.wrap (1-1)=0:=by decide
theorem st73 (x:St) (R L:List Int) (e d o:Int) (K:List Int) (hq:awQ s x d ((R.length:Nat):Int)) (n:Nat):uJ s t (n+1) (.k73 x.inn x.half x.outs x.balls x.strikes x.b1 x.b2 x.b3 x.n0 x.n1 x.c0 x.c1 x.over R L e d o K)=uJ s t n (.k79 x.inn x.half x.outs x.balls x.strikes x.b1 x.b2 x.b3 x.n0 x.n1 x.c0 x.c1 x.over R L e o K):=by
 rcases hq with⟨h0,h1,h2,h3,h4⟩ | ⟨h0,h1,h2,h3,h4⟩
 · have b1:(x.c0==IntKind.i64.wrap (s.c0+((R.length:Nat):Int)))=true:=beq_iff_eq.2 h1
   have b2:(x.c1==s.c1)=true:=beq_iff_eq.2 h2
   have b3:(x.n0==IntKind.i64.wrap ((IntKind.i64.wrap (IntKind.i64.wrap (s.n0+d)-1)).tmod 9+1))=true:=beq_iff_eq.2 h3
   have b4:(x.n1==s.n1)=true:=beq_iff_eq.2 h4
   simp only [bX,pM,TS,w6,h0,gt0,gt1,in0,in1,w10,w11,b1,b2,b3,b4,cond_true,Bool.not_true,cond_false]
 · have b1:(x.c1==IntKind.i64.wrap (s.c1+((R.length:Nat):Int)))=true:=beq_iff_eq.2 h1
   have b2:(x.c0==s.c0)=true:=beq_iff_eq.2 h2
   have b3:(x.n1==IntKind.i64.wrap ((IntKind.i64.wrap (IntKind.i64.wrap (s.n1+d)-1)).tmod 9+1))=true:=beq_iff_eq.2 h3
   have b4:(x.n0==s.n0)=true:=beq_iff_eq.2 h4
   simp only [bX,pM,TS,w6,h0,gt0,gt1,in0,in1,w10,w11,b1,b2,b3,b4,cond_true,Bool.not_true,cond_false]
structure Mid (s x:St) (t:Pl) (R L:List Int) (e w d:Int):Prop where
 len:R.length+L.length≤8
 ml:t.m.length≤4
 sum:w=nb x.b1+(nb x.b2+nb x.b3)+((R.length:Nat):Int)+((t.m.countP (·.o):Nat):Int)+((L.length:Nat):Int)
 none:0<e→nb x.b1+(nb x.b2+nb x.b3)=0
 keep:awQ s x d ((R.length:Nat):Int)
 fin:finP s x e ((t.m.countP (·.o):Nat):Int)
 h12:x.b1≠0→x.b1≠x.b2
 h13:x.b1≠0→x.b1≠x.b3
 h23:x.b2≠0→x.b2≠x.b3
 nod:(R++L).Nodup
 dis:∀y∈R++L,y≠0→¬(y=x.b1∨y=x.b2∨y=x.b3)
theorem mid9 (x:St) (R L:List Int) (e w d:Int) (M:Mid s x t R L e w d) (n:Nat):uJ s t (n+(R++L).length+t.m.length+12) (.k33 x.inn x.half x.outs x.balls x.strikes x.b1 x.b2 x.b3 x.n0 x.n1 x.c0 x.c1 x.over R L e w d)=some true:=by
 obtain⟨K,e52,hK⟩:=lp52 (s:=s) (t:=t) x R L e w d ((t.m.countP (·.o):Nat):Int) (n+(R++L).length+5) M.h12 M.h13 M.h23
 have n1:=mA x.b1;have n2:=mA x.b2;have n3:=mA x.b3
 have hl:=M.len;have ml:=M.ml
 have cp:t.m.countP (·.o)≤t.m.length:=List.countP_le_length
 have e79:=lp79 (s:=s) (t:=t) x e ((t.m.countP (·.o):Nat):Int) R L K (by omega) M.fin M.nod (fun y hy q=>M.dis y hy (hK y q).1 (hK y q).2) n
 have e73:=st73 (s:=s) (t:=t) x R L e d ((t.m.countP (·.o):Nat):Int) K M.keep (n+(R++L).length+3)
 have e36:=lp36 (s:=s) x R L e w d ml t.m.length 0 (n+(R++L).length+10) 0 (by omega) (by omega)
 rw [List.drop_zero,Nat.zero_add]at e36
 have s1:IntKind.i64.wrap (nb x.b1+(nb x.b2+nb x.b3)+((R.length:Nat):Int))=nb x.b1+(nb x.b2+nb x.b3)+((R.length:Nat):Int):=by rw [bH]<;>omega
 have s2:IntKind.i64.wrap (nb x.b1+(nb x.b2+nb x.b3)+((R.length:Nat):Int)+((t.m.countP (·.o):Nat):Int))=nb x.b1+(nb x.b2+nb x.b3)+((R.length:Nat):Int)+((t.m.countP (·.o):Nat):Int):=by rw [bH]<;>omega
 have s3:IntKind.i64.wrap (nb x.b1+(nb x.b2+nb x.b3)+((R.length:Nat):Int)+((t.m.countP (·.o):Nat):Int)+((L.length:Nat):Int))=nb x.b1+(nb x.b2+nb x.b3)+((R.length:Nat):Int)+((t.m.countP (·.o):Nat):Int)+((L.length:Nat):Int):=by rw [bH]<;>omega
 have b1:(w==nb x.b1+(nb x.b2+nb x.b3)+((R.length:Nat):Int)+((t.m.countP (·.o):Nat):Int)+((L.length:Nat):Int))=true:=beq_iff_eq.2 M.sum
 have e69:uJ s t (n+(R++L).length+5) (.k69 x.inn x.half x.outs x.balls x.strikes x.b1 x.b2 x.b3 x.n0 x.n1 x.c0 x.c1 x.over R L e w d ((t.m.countP (·.o):Nat):Int) (nb x.b1+(nb x.b2+nb x.b3)) K)=some true:=by
  rw [show n+(R++L).length+5=(n+(R++L).length+3+1)+1 from rfl]
  rw [e79]at e73
  generalize n+(R++L).length+3+1=N at e73 ⊢
  simp only [bX,pM,TS,w6,s1,s2,s3,b1,Bool.not_true,cond_false]
  cases hz:decide (0<e)with
  | false=>rw [cond_false];exact e73
  | true=>
    have b2:(nb x.b1+(nb x.b2+nb x.b3)==0)=true:=beq_iff_eq.2 (M.none (of_decide_eq_true hz))
    rw [cond_true,b2,Bool.not_true,cond_false];exact e73
 rw [e69]at e52
 rw [show n+(R++L).length+t.m.length+12=(n+(R++L).length+10+t.m.length+1)+1 by omega]
 generalize hN:n+(R++L).length+10+t.m.length+1=N at e36 ⊢
 have u33:uJ s t (N+1) (.k33 x.inn x.half x.outs x.balls x.strikes x.b1 x.b2 x.b3 x.n0 x.n1 x.c0 x.c1 x.over R L e w d)=uJ s t N (.k36 x.inn x.half x.outs x.balls x.strikes x.b1 x.b2 x.b3 x.n0 x.n1 x.c0 x.c1 x.over R L e w d 0 0):=rfl
 have u47:uJ s t (n+(R++L).length+9+1) (.k47 x.inn x.half x.outs x.balls x.strikes x.b1 x.b2 x.b3 x.n0 x.n1 x.c0 x.c1 x.over R L e w d ((t.m.countP (·.o):Nat):Int))=uJ s t (n+(R++L).length+9) (.k52 x.inn x.half x.outs x.balls x.strikes x.b1 x.b2 x.b3 x.n0 x.n1 x.c0 x.c1 x.over R L e w d ((t.m.countP (·.o):Nat):Int) x.b1 x.b2 x.b3 0 0 []):=rfl
 rw [u33]
 refine e36.trans ?_
 exact u47.trans e52
theorem tail9 (x:St) (R L:List Int) (e:Int) (M:Mid s x t R L e (nb s.b1+(nb s.b2+nb s.b3)+(if t.e=[]then 0 else 1)) (if t.e=[]then 0 else 1))
  (hx:stE x=0) (h1:stE s=0) (h2:s.over=false) (he:0≤e∧e≤2) (ho:x.over=(e==2)) (hL:e=0→L=[])
  (e33:S33 (t,())=some t) (e34:Sz34 (s,t,())=some (R,0,())) (e35:Sz35 (s,t,())=some (L,0,())) (e36:Sz36 (s,t,())=some (e,0,())) (n:Nat) :
  uJ s t (n+(R++L).length+t.m.length+14) (.k15 x.inn x.half x.outs x.balls x.strikes x.b1 x.b2 x.b3 x.n0 x.n1 x.c0 x.c1 x.over 0)=some true:=by
 obtain⟨l,e15,hl⟩:=s15 h1 h2
 have e17:S17 (x,())=some 0:=congrArg some hx
 have n1:=mA s.b1;have n2:=mA s.b2;have n3:=mA s.b3
 have c1:decide (e<0)=false:=by simp;omega
 have c2:decide (2<e)=false:=by simp;omega
 have c3:(x.over==(e==2))=true:=beq_iff_eq.2 ho
 have w0:IntKind.i64.wrap (0+0)=0:=by decide
 have z0:((0:Int)==0)=true:=rfl
 have mid:=mid9 x R L e _ _ M n
 have e27:uJ s t (n+(R++L).length+t.m.length+13) (.k27 x.inn x.half x.outs x.balls x.strikes x.b1 x.b2 x.b3 x.n0 x.n1 x.c0 x.c1 x.over R L e l)=some true:=by
  rw [show n+(R++L).length+t.m.length+13=(n+(R++L).length+t.m.length+12)+1 from rfl]
  generalize n+(R++L).length+t.m.length+12=N at mid ⊢
  have w1:IntKind.i64.wrap (((l.length:Nat):Int)+1)=((l.length:Nat):Int)+1:=by rw [bH]<;>omega
  by_cases ht:t.e=[]
  · rw [if_pos ht,Int.add_zero,←hl]at mid
    simp only [bX,pM,TS,w6,ht,decide_true,Bool.not_true,cond_false]
    exact mid
  · rw [if_neg ht,←hl]at mid
    simp only [bX,pM,TS,w6,ht,decide_false,Bool.not_false,cond_true,w1]
    exact mid
 rw [show n+(R++L).length+t.m.length+14=(n+(R++L).length+t.m.length+13)+1 from rfl]
 generalize n+(R++L).length+t.m.length+13=N at e27 ⊢
 simp only [bX,pM,TS,w6,e33,e34,e35,e36,e15,obind_some,w0,z0,Bool.not_true,cond_false]
 show(aH (S17 (x,())) _)=_
 rw [e17,obind_some]
 simp only [c1,c2,c3,z0,Bool.not_true,cond_false]
 cases hz:decide (0<((L.length:Nat):Int))with
 | false=>rw [cond_false];exact e27
 | true=>
   have c4:(e==0)=false:=by
    rw [beq_eq_false_iff_ne]
    intro q
    rw [hL q]at hz
    simp at hz
   rw [cond_true,c4,cond_false];exact e27
end
end
end Go.Ev
