import Derived.Test.YtkhmgggponmimaaGreatDoorDQO
set_option linter.unusedSimpArgs false
set_option linter.unusedVariables false
namespace Go.Ev
open Go.RowKit Go.Proofs
set_option maxRecDepth 100000
set_option maxHeartbeats 8000000
set_option linter.unusedSimpArgs false
noncomputable section
def aq1 (s:St) (t:Pl) (k:Int):Int:=if sM s t≠0 then sM s t else if k≠0 then 18 else if bq3 s t=true then 4 else 0
def numA (s:St) (t:Pl) (k:Int):Int:=if sM s t≠0 then 0 else k
theorem lp88 (l:List Mv) (tn:Tn) (hl:l.length≤4) (hs:tn.s_half=0∨tn.s_half=1) (hv:∀m∈l,mvE m=0):∀(j k n:Nat) (x:List Int),l.length=k+j→x.length≤k→ayy l ((tn,()),()) (n+j+1) (.k6 (k:Int) x)=some (x++(l.drop k).map (axX tn))
 | 0,k,n,x,hk,hx=>by
   have c1:decide ((k:Int)<((l.length:Nat):Int))=false:=by simp;omega
   rw [List.drop_eq_nil_of_le (by omega)]
   simp only [awL,aki,TS,w6,c1,cond_false,List.map_nil,List.append_nil]
 | j + 1,k,n,x,hlk,hx=>by
   have hk:k<l.length:=by omega
   obtain⟨m,hm⟩:∃m,l[k]? = some m:=⟨l[k],List.getElem?_eq_getElem hk⟩
   have hr:=fQ (hv m (List.mem_of_getElem? hm))
   have ih:=lp88 l tn hl hs hv j (k+1) n (x++[axX tn m]) (by omega) (by simp;omega)
   have q:Sz90 (m,(tn,()),())=some (axX tn m):=by
    show Ez90 m (tn,())=_
    unfold Ez90 Tz90
    simp only [TS,w6]
    rw [s91 hs (by omega)];rfl
   have c1:decide ((k:Int)<((l.length:Nat):Int))=true:=by simp;omega
   have c2:inR (k:Int) l.length=true:=gP (by omega) (by omega)
   have c3:Nat.ble (8*(x.length+1)) 1000000=true:=by rw [Nat.ble_eq];omega
   have w4:IntKind.i64.wrap ((k:Int)+1)=((k+1:Nat):Int):=by rw [b7]<;>omega
   rw [aO hm,show n+(j+1)+1=(n+j+1)+1 from rfl]
   generalize n+j+1=N at ih ⊢
   simp only [awL,aki,TS,w6,List.length_map,c1,c2,c3,cond_true,Int.toNat_natCast,a7 hm,w4,ih,q,obind_some,List.map_cons]
   simp
theorem s88 {l:List Mv}{tn:Tn}(hl:l.length≤4) (hs:tn.s_half=0∨tn.s_half=1) (hv:∀m∈l,mvE m=0):Sz88 (l,((tn,()),()),())=some (l.map (axX tn)):=by
 have e:=lp88 l tn hl hs hv l.length 0 63 [] (by omega) (by simp)
 rw [←mB,List.drop_zero,List.nil_append]at e
 show Ez88 (l.length+64) l ((tn,()),())=_
 unfold Ez88 Tz88
 simp only [TS,w6]
 exact e
section
variable {s:St}{t:Pl}{k:Int}
theorem lQ {o:Int}{b:Bool}{l:List Mv}:(f7 o b l).length≤l.length∧∀m∈f7 o b l,m∈l:=by
 unfold f7
 split
 · simp
 · exact⟨List.length_filter_le _ _,fun m hm=>(List.mem_filter.1 hm).1⟩
theorem acc_cases (s:St) (t:Pl) (k:Int):(aq1 s t k≠0∧accR s t k=(none,numA s t k,aq1 s t k,()) )∨(aq1 s t k=0∧sM s t=0∧k=0∧accR s t k=(some (eF s t),0,0,())):=by
 unfold accR aq1 numA
 by_cases h1:sM s t=0
 · by_cases h2:k=0
   · cases h3:bq3 s t with
     | true=>left;simp [h1,h2]
     | false=>right;simp [h1,h2]
   · left;simp [h1,h2]
 · left;simp [h1]
theorem s34 (ok:okP t) (hk:sM s t=0→s5 (eF s t,())=some k):Sz34 (s,t,())=some (if aq1 s t k≠0 then([],aq1 s t k,())else((f7 (outsI s t) t.l t.m).map (bqJ s),0,())):=by
 show Ez34 ((t.m.length+63)+1) s t=_
 unfold Ez34 Tz34
 simp only [TS,w6]
 rw [s85 ok hk,obind_some]
 rcases acc_cases s t k with⟨h1,h2⟩ | ⟨h1,h2,h3,h4⟩
 · rw [h2,if_pos h1]
   have c:(!(aq1 s t k==0))=true:=by simpa using h1
   show cond (!(aq1 s t k==0)) _ _=_
   rw [c];rfl
 · rw [h4,if_neg (by simpa using h1)]
   obtain⟨e1,e2,e3⟩:=jG h2
   have hm:=(playE_zero e2).2.2
   have e89:axH (eF s t,())=some (f7 (outsI s t) t.l t.m):=s89 (s:=eF s t) hm
   have e88:Sz88 (f7 (outsI s t) t.l t.m,((eF s t,()),()),())=some ((f7 (outsI s t) t.l t.m).map (bqJ s)):=s88 (Nat.le_trans lQ.1 (dI hm)) (vO e1).half fun m h=>sQ hm m (lQ.2 m h)
   show(aM (axH (eF s t,())) fun r38=>(aM (Sz88 (r38,((eF s t,()),()),())) fun r39=>(some (r39,(0:Int),()))))=_
   rw [e89,obind_some,e88];rfl
theorem s36 (ok:okP t) (hk:sM s t=0→s5 (eF s t,())=some k) (hg:k=0→sM s t=0→gH s t):Sz36 (s,t,())=some (if aq1 s t k≠0 then(0,aq1 s t k,())else(rI (mvd s t),0,())):=by
 show Ez36 s t=_
 unfold Ez36 Tz36
 simp only [TS,w6]
 rw [s85 ok hk,obind_some]
 rcases acc_cases s t k with⟨h1,h2⟩ | ⟨h1,h2,h3,h4⟩
 · rw [h2,if_pos h1]
   have c:(!(aq1 s t k==0))=true:=by simpa using h1
   show cond (!(aq1 s t k==0)) _ _=_
   rw [c];rfl
 · rw [h4,if_neg (by simpa using h1)]
   obtain⟨e1,e2,e3⟩:=jG h2
   show(aM (Sz92 (eF s t,())) fun r8=>(some (r8,(0:Int),())))=_
   rw [s92 (playE_zero e2).2.2 (vO e1).half e3 (hg h3 h2)];rfl
end
end
end Go.Ev
