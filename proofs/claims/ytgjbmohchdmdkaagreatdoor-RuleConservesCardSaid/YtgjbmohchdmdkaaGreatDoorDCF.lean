import Derived.Test.YtgjbmohchdmdkaaGreatDoorDCE
import Derived.Test.YtgjbmohchdmdkaaGreatDoorDC1
set_option linter.unusedSimpArgs false
set_option linter.unusedVariables false
namespace Go.Ev
open Go.RowKit Go.Proofs
set_option maxRecDepth 100000
set_option maxHeartbeats 8000000
set_option linter.unusedSimpArgs false
set_option linter.unusedVariables false
noncomputable section
theorem wv0:IntKind.i64.wrap 0=0:=by decide
theorem wv1:IntKind.i64.wrap 1=1:=by decide
theorem wv2:IntKind.i64.wrap 2=2:=by decide
theorem nb8:Nat.ble 8 1000000=true:=rfl
theorem nb16:Nat.ble 16 1000000=true:=rfl
theorem nb24:Nat.ble 24 1000000=true:=rfl
theorem wv3:IntKind.i64.wrap 3=3:=by decide
section
variable {s:St}{t:Pl}
theorem s15 (h1:stE s=0) (h2:s.over=false):∃l,Sz15 (s,())=some (l,0,())∧((l.length:Nat):Int)=nb s.b1+(nb s.b2+nb s.b3):=by
 have e18:S18 (s,())=some 0:=congrArg some h1
 have e61:Sz61 (s,())=some 0:=by
  show Ez61 s=_
  unfold Ez61 Tz61
  simp only [TS,w6]
  rw [h2];rfl
 have e60:mT (s,(((),()),((),()),()),())=some 0:=by
  have j:∀n,gH s (((),()),((),()),()) (n+3) (.k4 0)=some 0:=by
   intro n
   simp [vA,gG,TS,w6,e18,e61,obind_some,wv0,wv1,wv2,wv3]
  show mV 64 s _=_
  unfold mV mS
  simp only [TS,w6]
  exact j 61
 have j:∀n,∃l,ayp s (n+4) (.k12 0 [])=some (l,0,())∧((l.length:Nat):Int)=nb s.b1+(nb s.b2+nb s.b3):=by
  intro n
  have q:ayp s (n+4) (.k12 0 [])=some ((if s.b3=0 then []else [s.b3])++((if s.b2=0 then []else [s.b2])++(if s.b1=0 then []else [s.b1])),0,()):=by
   by_cases a:s.b3=0<;>by_cases b:s.b2=0<;>by_cases c:s.b1=0<;>simp [Ez15J_s,bjP,TS,w6,a,b,c,wv0,wv1,wv2,wv3,cond_ite,nb8,nb16,nb24]
  refine⟨_,q,?_⟩
  unfold nb
  by_cases a:s.b3=0<;>by_cases b:s.b2=0<;>by_cases c:s.b1=0<;>simp [a,b,c]
 obtain⟨l,e,hl⟩:=j 60
 refine⟨l,?_,hl⟩
 show Ez15 64 s=_
 unfold Ez15 Tz15
 simp only [TS,w6]
 rw [e60,obind_some]
 exact e
theorem lp36 (x:St) (R L:List Int) (e w d:Int) (hl:t.m.length≤4):∀(j k n c:Nat),t.m.length=k+j→c≤k→uJ s t (n+j+1) (.k36 x.inn x.half x.outs x.balls x.strikes x.b1 x.b2 x.b3 x.n0 x.n1 x.c0 x.c1 x.over R L e w d (c:Int) (k:Int))=uJ s t n (.k47 x.inn x.half x.outs x.balls x.strikes x.b1 x.b2 x.b3 x.n0 x.n1 x.c0 x.c1 x.over R L e w d ((c+(t.m.drop k).countP (·.o):Nat):Int))
 | 0,k,n,c,hk,hc=>by
   have c1:decide ((k:Int)<((t.m.length:Nat):Int))=false:=by simp;omega
   rw [List.drop_eq_nil_of_le (by omega)]
   simp only [bX,pM,TS,w6,c1,cond_false,List.countP_nil,Nat.add_zero]
 | j+1,k,n,c,hlk,hc=>by
   have hk:k<t.m.length:=by omega
   obtain⟨m,hm⟩:∃m,t.m[k]? = some m:=⟨t.m[k],List.getElem?_eq_getElem hk⟩
   have ih0:=lp36 x R L e w d hl j (k+1) n c (by omega) (by omega)
   have ih1:=lp36 x R L e w d hl j (k+1) n (c+1) (by omega) (by omega)
   have c1:decide ((k:Int)<((t.m.length:Nat):Int))=true:=by simp;omega
   have c2:inR (k:Int) t.m.length=true:=f8 (by omega) (by omega)
   have w4:IntKind.i64.wrap ((k:Int)+1)=((k+1:Nat):Int):=by rw [bH]<;>omega
   have w5:IntKind.i64.wrap ((c:Int)+1)=((c+1:Nat):Int):=by rw [bH]<;>omega
   rw [bA hm,show n+(j+1)+1=(n+j+1)+1 from rfl,List.countP_cons]
   generalize n+j+1=N at ih0 ih1 ⊢
   simp only [bX,pM,TS,w6,c1,c2,cond_true,Int.toNat_natCast,aQ hm,w4,w5]
   cases ho:m.o with
   | true=>rw [cond_true,ih1];congr 2;simp;omega
   | false=>rw [cond_false,ih0];congr 2
theorem lp52 (x:St) (R L:List Int) (e w d o:Int) (n:Nat) (h12:x.b1≠0→x.b1≠x.b2) (h13:x.b1≠0→x.b1≠x.b3) (h23:x.b2≠0→x.b2≠x.b3) :
  ∃K:List Int,uJ s t (n+4) (.k52 x.inn x.half x.outs x.balls x.strikes x.b1 x.b2 x.b3 x.n0 x.n1 x.c0 x.c1 x.over R L e w d o x.b1 x.b2 x.b3 0 0 [])=uJ s t n (.k69 x.inn x.half x.outs x.balls x.strikes x.b1 x.b2 x.b3 x.n0 x.n1 x.c0 x.c1 x.over R L e w d o (nb x.b1+(nb x.b2+nb x.b3)) K)∧∀y,y∈K→y≠0∧(y=x.b1∨y=x.b2∨y=x.b3):=by
 have i0:∀a:Int,insK [] a=[a]:=fun a=>rfl
 by_cases a:x.b1=0<;>by_cases b:x.b2=0<;>by_cases c:x.b3=0
 · refine ⟨[],?_,?_⟩
   · simp [bX,pM,TS,w6,a,b,c,wv0,wv1,wv2,wv3,nb,cond_ite]
   · intro y hy;cases hy
 · refine ⟨[x.b3],?_,?_⟩
   · simp [bX,pM,TS,w6,a,b,c,wv0,wv1,wv2,wv3,insK,nb,cond_ite]
   · intro y hy;simp at hy;omega
 · refine ⟨[x.b2],?_,?_⟩
   · simp [bX,pM,TS,w6,a,b,c,wv0,wv1,wv2,wv3,insK,nb,cond_ite]
   · intro y hy;simp at hy;omega
 · refine ⟨[x.b2,x.b3],?_,?_⟩
   · simp [bX,pM,TS,w6,a,b,c,wv0,wv1,wv2,wv3,insK,nb,cond_ite,(h23 b),(Ne.symm (h23 b))]
   · intro y hy;simp at hy;omega
 · refine ⟨[x.b1],?_,?_⟩
   · simp [bX,pM,TS,w6,a,b,c,wv0,wv1,wv2,wv3,insK,nb,cond_ite]
   · intro y hy;simp at hy;omega
 · refine ⟨[x.b1,x.b3],?_,?_⟩
   · simp [bX,pM,TS,w6,a,b,c,wv0,wv1,wv2,wv3,insK,nb,cond_ite,(h13 a),(Ne.symm (h13 a))]
   · intro y hy;simp at hy;omega
 · refine ⟨[x.b1,x.b2],?_,?_⟩
   · simp [bX,pM,TS,w6,a,b,c,wv0,wv1,wv2,wv3,insK,nb,cond_ite,(h12 a),(Ne.symm (h12 a))]
   · intro y hy;simp at hy;omega
 · refine ⟨[x.b1,x.b2,x.b3],?_,?_⟩
   · simp [bX,pM,TS,w6,a,b,c,wv0,wv1,wv2,wv3,insK,nb,cond_ite,(h12 a),(h13 a),(h23 b),(Ne.symm (h12 a)),(Ne.symm (h13 a)),(Ne.symm (h23 b))]
   · intro y hy;simp at hy;omega
def finP (s x:St) (e o:Int):Prop:=(e=0∧x.outs=IntKind.i64.wrap (s.outs+o)∧x.inn=s.inn∧x.half=s.half)∨(e=1∧x.outs=0∧x.balls=0∧x.strikes=0∧x.half≠s.half∧x.inn=IntKind.i64.wrap (s.inn+s.half))∨(e=2∧x.outs=0∧x.balls=0∧x.strikes=0∧x.half=s.half∧x.inn=s.inn)
theorem mem_insK {K:List Int}{a y:Int}(h:y∈insK K a):y∈K∨y=a:=by
 unfold insK at h
 by_cases q:a∈K
 · simp [q]at h;exact .inl h
 · simp [q]at h;exact h
theorem lp80 (x:St) (e o:Int) (xs:List Int) (hl:xs.length<1000) (hf:finP s x e o):∀(j k n:Nat) (K:List Int),xs.length=k+j→(xs.drop k).Nodup→(∀y∈xs.drop k,y ∉ K)→uJ s t (n+j+1) (.k80 x.inn x.half x.outs x.balls x.strikes x.b1 x.b2 x.b3 x.n0 x.n1 x.c0 x.c1 x.over e o xs ((xs.length:Nat):Int) K (k:Int))=some true
 | 0, k,n,K,hk,hn,hd=>by
   have c1:decide ((k:Int)<((xs.length:Nat):Int))=false:=by simp;omega
   have sw:ajM ()=some true:=rfl
   simp only [bX,pM,TS,w6,c1,cond_false]
   rcases hf with⟨rfl,h1,h2,h3⟩ | ⟨rfl,h1,h2,h3,h4,h5⟩ | ⟨rfl,h1,h2,h3,h4,h5⟩
   · simp [h1,h2,h3,sw,obind_some]
   · have h4':(x.half==s.half)=false:=by simpa using h4
     simp [h1,h2,h3,h4',h5,sw,obind_some]
   · simp [h1,h2,h3,h4,h5,sw,obind_some]
 | j + 1,k,n,K,hlk,hn,hd=>by
   have hk:k<xs.length:=by omega
   obtain⟨m,hm⟩:∃m,xs[k]? = some m:=⟨xs[k],List.getElem?_eq_getElem hk⟩
   rw [bA hm]at hn hd
   rw [List.nodup_cons]at hn
   have ih:=lp80 x e o xs hl hf j (k+1) n (insK K m) (by omega) hn.2 (fun y hy q=>by
    rcases mem_insK q with q|q
    · exact hd y (List.mem_cons_of_mem _ hy) q
    · exact hn.1 (q▸hy))
   have c1:decide ((k:Int)<((xs.length:Nat):Int))=true:=by simp;omega
   have c2:inR (k:Int) xs.length=true:=f8 (by omega) (by omega)
   have c3:decide (m∈K)=false:=by simpa using hd m List.mem_cons_self
   have w4:IntKind.i64.wrap ((k:Int)+1)=((k+1:Nat):Int):=by rw [bH]<;>omega
   rw [show n+(j+1)+1=(n+j+1)+1 from rfl]
   generalize n+j+1=N at ih ⊢
   simp only [bX,pM,TS,w6,c1,c2,c3,cond_true,cond_false,Int.toNat_natCast,aQ hm,w4,ih]
theorem lp79 (x:St) (e o:Int) (R L K:List Int) (hl:R.length+L.length<1000) (hf:finP s x e o) (hn:(R++L).Nodup) (hd:∀y∈R++L,y ∉ K) (n:Nat) :
  uJ s t (n+(R++L).length+3) (.k79 x.inn x.half x.outs x.balls x.strikes x.b1 x.b2 x.b3 x.n0 x.n1 x.c0 x.c1 x.over R L e o K)=some true:=by
 have e80:=lp80 (s:=s) (t:=t) x e o (R++L) (by simp;omega) hf (R++L).length 0 n K (by omega) (by rw [List.drop_zero];exact hn) (by rw [List.drop_zero];exact hd)
 have kR:f7 ((Cod.list 0 aJ).v R)=R.map aJ.v:=gY
 have kL:f7 ((Cod.list 0 aJ).v L)=L.map aJ.v:=gY
 have c1:Nat.ble (8*R.length) 1000000=true:=by rw [Nat.ble_eq];omega
 have e81:uJ s t (n+(R++L).length+2) (.k81 x.inn x.half x.outs x.balls x.strikes x.b1 x.b2 x.b3 x.n0 x.n1 x.c0 x.c1 x.over e o (R++L) (((R++L).length:Nat):Int) K)=some true:=by
  rw [show n+(R++L).length+2=(n+(R++L).length+1)+1 from rfl]
  generalize n+(R++L).length+1=N at e80 ⊢
  simp only [bX,pM,TS]
  exact e80
 rw [show n+(R++L).length+3=(n+(R++L).length+2)+1 from rfl]
 generalize n+(R++L).length+2=N at e81 ⊢
 by_cases hL:L=[]
 · subst hL
   rw [List.append_nil]at e81
   have c2:Nat.beq ([]:List Int).length 0=true:=rfl
   simp only [bX,pM,TS,c1,c2,cond_true,kR,kL,List.length_map]
   exact e81
 · have c2:Nat.beq L.length 0=false:=by
    cases L with
    | nil=>exact absurd rfl hL
    | cons a l=>rfl
   have c3:Nat.ble (8*(R.length+L.length)) 1000000=true:=by rw [Nat.ble_eq];omega
   simp only [bX,pM,TS,c1,c2,c3,cond_true,cond_false,kR,kL,List.length_map,List.length_append]at e81 ⊢
   exact e81
end
end
end Go.Ev
