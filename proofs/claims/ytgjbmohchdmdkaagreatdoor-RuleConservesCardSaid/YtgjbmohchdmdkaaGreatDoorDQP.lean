import Derived.Test.YtgjbmohchdmdkaaGreatDoorDQO
set_option linter.unusedSimpArgs false
set_option linter.unusedVariables false
namespace Go.Ev
open Go.RowKit Go.Proofs
set_option maxRecDepth 100000
set_option maxHeartbeats 8000000
set_option linter.unusedSimpArgs false
noncomputable section
def oG (s:St) (t:Pl) (k:Int):Int:=if qZ s t≠0 then qZ s t else if k≠0 then 18 else if ayv s t=true then 4 else 0
def bxL (s:St) (t:Pl) (k:Int):Int:=if qZ s t≠0 then 0 else k
theorem lp88 (l:List Mv) (tn:Tn) (hl:l.length≤4) (hs:tn.s_half=0∨tn.s_half=1) (hv:∀m∈l,mvE m=0):∀(j k n:Nat) (x:List Int),l.length=k+j→x.length≤k→bjo l ((tn,()),()) (n+j+1) (.k6 (k:Int) x)=some (x++(l.drop k).map (azw tn))
 | 0,k,n,x,hk,hx=>by
   have c1:decide ((k:Int)<((l.length:Nat):Int))=false:=by simp;omega
   rw [List.drop_eq_nil_of_le (by omega)]
   simp only [ayi,ayY,TS,w6,c1,cond_false,List.map_nil,List.append_nil]
 | j + 1,k,n,x,hlk,hx=>by
   have hk:k<l.length:=by omega
   obtain⟨m,hm⟩:∃m,l[k]? = some m:=⟨l[k],List.getElem?_eq_getElem hk⟩
   have hr:=fE (hv m (List.mem_of_getElem? hm))
   have ih:=lp88 l tn hl hs hv j (k+1) n (x++[azw tn m]) (by omega) (by simp;omega)
   have q:Sz90 (m,(tn,()),())=some (azw tn m):=by
    show Ez90 m (tn,())=_
    unfold Ez90 Tz90
    simp only [TS,w6]
    rw [s91 hs (by omega)];rfl
   have c1:decide ((k:Int)<((l.length:Nat):Int))=true:=by simp;omega
   have c2:inR (k:Int) l.length=true:=f8 (by omega) (by omega)
   have c3:Nat.ble (8*(x.length+1)) 1000000=true:=by rw [Nat.ble_eq];omega
   have w4:IntKind.i64.wrap ((k:Int)+1)=((k+1:Nat):Int):=by rw [bH]<;>omega
   rw [bA hm,show n+(j+1)+1=(n+j+1)+1 from rfl]
   generalize n+j+1=N at ih ⊢
   simp only [ayi,ayY,TS,w6,List.length_map,c1,c2,c3,cond_true,Int.toNat_natCast,aQ hm,w4,ih,q,obind_some,List.map_cons]
   simp
theorem s88 {l:List Mv}{tn:Tn}(hl:l.length≤4) (hs:tn.s_half=0∨tn.s_half=1) (hv:∀m∈l,mvE m=0):Sz88 (l,((tn,()),()),())=some (l.map (azw tn)):=by
 have e:=lp88 l tn hl hs hv l.length 0 63 [] (by omega) (by simp)
 rw [←jV,List.drop_zero,List.nil_append]at e
 show Ez88 (l.length+64) l ((tn,()),())=_
 unfold Ez88 Tz88
 simp only [TS,w6]
 exact e
section
variable {s:St}{t:Pl}{k:Int}
theorem nD {o:Int}{b:Bool}{l:List Mv}:(dA o b l).length≤l.length∧∀m∈dA o b l,m∈l:=by
 unfold dA
 split
 · simp
 · exact⟨List.length_filter_le _ _,fun m hm=>(List.mem_filter.1 hm).1⟩
theorem acc_cases (s:St) (t:Pl) (k:Int):(oG s t k≠0∧accR s t k=(none,bxL s t k,oG s t k,()) )∨(oG s t k=0∧qZ s t=0∧k=0∧accR s t k=(some (d8 s t),0,0,())):=by
 unfold accR oG bxL
 by_cases h1:qZ s t=0
 · by_cases h2:k=0
   · cases h3:ayv s t with
     | true=>left;simp [h1,h2]
     | false=>right;simp [h1,h2]
   · left;simp [h1,h2]
 · left;simp [h1]
theorem s32 (ok:okP t) (hk:qZ s t=0→yZ (d8 s t,())=some k) (hg:k=0→qZ s t=0→eP s t):Sz32 (s,t,())=some (if oG s t k≠0 then(zSt,bxL s t k,oG s t k,())else(nxt (mvd s t),0,0,())):=by
 show Ez32 s t=_
 unfold Ez32 Tz32
 simp only [TS,w6]
 rw [s85 ok hk,obind_some]
 rcases acc_cases s t k with⟨h1,h2⟩ | ⟨h1,h2,h3,h4⟩
 · rw [h2,if_pos h1]
   have c:(!(oG s t k==0))=true:=by simpa using h1
   show cond (!(oG s t k==0)) _ _=_
   rw [c];rfl
 · rw [h4,if_neg (by simpa using h1)]
   obtain⟨e1,e2,e3⟩:=j0 h2
   show(aH (Sz86 (d8 s t,())) fun r8=>(some (r8,(0:Int),(0:Int),())))=_
   rw [s86 (playE_zero e2).2.2 (oW e1).half (hg h3 h2)];rfl
theorem s34 (ok:okP t) (hk:qZ s t=0→yZ (d8 s t,())=some k):Sz34 (s,t,())=some (if oG s t k≠0 then([],oG s t k,())else((dA (outsI s t) t.l t.m).map (zS s),0,())):=by
 show Ez34 ((t.m.length+63)+1) s t=_
 unfold Ez34 Tz34
 simp only [TS,w6]
 rw [s85 ok hk,obind_some]
 rcases acc_cases s t k with⟨h1,h2⟩ | ⟨h1,h2,h3,h4⟩
 · rw [h2,if_pos h1]
   have c:(!(oG s t k==0))=true:=by simpa using h1
   show cond (!(oG s t k==0)) _ _=_
   rw [c];rfl
 · rw [h4,if_neg (by simpa using h1)]
   obtain⟨e1,e2,e3⟩:=j0 h2
   have hm:=(playE_zero e2).2.2
   have e89:ajL (d8 s t,())=some (dA (outsI s t) t.l t.m):=s89 (s:=d8 s t) hm
   have e88:Sz88 (dA (outsI s t) t.l t.m,((d8 s t,()),()),())=some ((dA (outsI s t) t.l t.m).map (zS s)):=s88 (Nat.le_trans nD.1 (a7 hm)) (oW e1).half fun m h=>qX hm m (nD.2 m h)
   show(aH (ajL (d8 s t,())) fun r38=>(aH (Sz88 (r38,((d8 s t,()),()),())) fun r39=>(some (r39,(0:Int),()))))=_
   rw [e89,obind_some,e88];rfl
theorem s36 (ok:okP t) (hk:qZ s t=0→yZ (d8 s t,())=some k) (hg:k=0→qZ s t=0→eP s t):Sz36 (s,t,())=some (if oG s t k≠0 then(0,oG s t k,())else(jC (mvd s t),0,())):=by
 show Ez36 s t=_
 unfold Ez36 Tz36
 simp only [TS,w6]
 rw [s85 ok hk,obind_some]
 rcases acc_cases s t k with⟨h1,h2⟩ | ⟨h1,h2,h3,h4⟩
 · rw [h2,if_pos h1]
   have c:(!(oG s t k==0))=true:=by simpa using h1
   show cond (!(oG s t k==0)) _ _=_
   rw [c];rfl
 · rw [h4,if_neg (by simpa using h1)]
   obtain⟨e1,e2,e3⟩:=j0 h2
   show(aH (bxg (d8 s t,())) fun r8=>(some (r8,(0:Int),())))=_
   rw [s92 (playE_zero e2).2.2 (oW e1).half e3 (hg h3 h2)];rfl
end
end
end Go.Ev
