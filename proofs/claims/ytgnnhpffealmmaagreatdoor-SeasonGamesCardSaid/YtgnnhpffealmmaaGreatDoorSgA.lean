import Derived.Test.YtgnnhpffealmmaaGreatDoorDS
set_option linter.unusedSimpArgs false
set_option linter.unusedVariables false
namespace Go.Ev
open Go.RowKit Go.Proofs
set_option maxRecDepth 100000
set_option maxHeartbeats 4000000
set_option linter.unusedSimpArgs false
noncomputable section
theorem wrapI {n:Int}(h1:-9223372036854775808≤n) (h2:n<9223372036854775808):IntKind.i64.wrap n=n:=t8 h1 h2
theorem w6s {k:Nat}(h:k<9223372036854775807):w6 ((k:Int)+1)=((k+1:Nat):Int):=by unfold w6;rw [wrapI]<;>omega
theorem w6p {k:Nat}(h:k<9223372036854775807):w6 (((k+1:Nat):Int)-1)=((k:Nat):Int):=by unfold w6;rw [wrapI]<;>omega
theorem inR_t {i:Int}{n:Nat}(h1:0≤i) (h2:i<(n:Int)):inR i n=true:=by simp [inR];omega
theorem eQ {k n:Nat}(h:k<n):inR (k:Int) n=true:=inR_t (by omega) (by omega)
theorem aM {α:Type}{l:List α}{k:Nat}{x d:α}(h:l[k]? = some x):l.getD k d=x:=by rw [List.getD_eq_getElem?_getD,h];rfl
theorem eW {α:Type}{l:List α}{k:Nat}(h:k<l.length):∃x,l[k]? = some x:=⟨l[k],List.getElem?_eq_getElem h⟩
theorem j3 {k n:Nat}(h:k<n):decide ((k:Int)<((n:Nat):Int))=true:=by simp;omega
theorem j4 {k n:Nat}(h:¬k<n):decide ((k:Int)<((n:Nat):Int))=false:=by simp;omega
theorem nc0:((0:Nat):Int)=0:=rfl
theorem fu (n:Nat):n+64=63+n+1:=by omega
theorem aqb (s:ByteArray) (i:Nat) (h:128≤(s.get! i).toNat):128≤(Utf8.decode s i).1:=by
 unfold Utf8.decode
 simp only [Nat.add_zero]
 rw [if_neg (by omega)]
 have h2:128≤Utf8.runeError:=by decide
 split
 · split
   · assumption
   · exact h2
 · split
   · split
     · rename_i h3
       simp only [Bool.and_eq_true,decide_eq_true_eq]at h3
       omega
     · exact h2
   · split
     · split
       · rename_i h3
         simp only [Bool.and_eq_true,decide_eq_true_eq]at h3
         omega
       · exact h2
     · exact h2
def dE (l:List Nat):Bool:=l.all fun c=>decide (c<256)
theorem xY {l:List Nat}{k c:Nat}(h:l[k]? = some c) (hc:c<128):cQ l k=some (c,1):=by
 unfold cQ;rw [h];simp [hc]
theorem aqG {l:List Nat}{k c:Nat}(hb:dE l=true) (h:l[k]? = some c) (hc:¬c<128):∃r w,cQ l k=some (r,w)∧128≤r:=by
 unfold cQ;rw [h]
 simp only [hc,if_false]
 refine⟨_,_,rfl,aqb _ _ ?_⟩
 have hlt:c<256:=by
  have:=List.all_eq_true.1 hb c (List.mem_of_getElem? h)
  simpa using this
 have hk:=(List.getElem?_eq_some_iff.1 h).1
 have:((⟨(l.map UInt8.ofNat).toArray⟩:ByteArray).get! k)=UInt8.ofNat c:=by
  show((l.map UInt8.ofNat).toArray)[k]! = _
  have hq:(l.map UInt8.ofNat)[k]? = some (UInt8.ofNat c):=by simp [h]
  simp [hq]
 rw [this]
 simp
 omega
theorem wK {l:List Nat}{k c:Nat}(h:l[k]? = some c) (hc:c<128):jW l k=(c,1):=by unfold jW;rw [xY h hc];rfl
theorem wL {l:List Nat}{k c:Nat}(hb:dE l=true) (h:l[k]? = some c) (hc:¬c<128):128≤(jW l k).1:=by
 obtain⟨r,w,e,hr⟩:=aqG hb h hc
 unfold jW;rw [e];exact hr
theorem blt_t {k n:Nat}(h:k<n):Nat.blt k n=true:=by rw [Nat.blt_eq];exact h
theorem blt_f {k n:Nat}(h:¬k<n):Nat.blt k n=false:=by
 cases hb:Nat.blt k n
 · rfl
 · rw [Nat.blt_eq]at hb;exact absurd hb h
def isL (c:Nat):Bool:=decide (((97:Int)≤c∧(c:Int)≤122)∨((65:Int)≤c∧(c:Int)≤90))
def isD (c:Nat):Bool:=decide ((48:Int)≤c∧(c:Int)≤57)
def isW (c:Nat):Bool:=isL c||(isD c||c==95)
def nmB (l:List Nat):Bool:=decide (1≤l.length∧l.length≤24)&&(isL (l.getD 0 0)&&l.all isW)
theorem s136 (a b c:Int):Sf136 (a,b,c,())=some (decide (b≤a∧a≤c)):=by
 show(axS a b c).d noE=_
 simp only [axS,TS]
 by_cases h1:b≤a<;>by_cases h2:a≤c<;>simp [h1,h2]
theorem s108 (n:Nat):Sz108 ((n:Int),())=some (isL n):=by
 show(axR (n:Int)).d noE=_
 have h:Sz130 ((n:Int),())=some (decide ((97:Int)≤n∧(n:Int)≤122)):=by
  show(axJ (n:Int)).d noE=_
  simp only [axJ,TS]
  by_cases h1:(97:Int)≤n<;>by_cases h2:(n:Int)≤122<;>simp [h1,h2]
 simp only [axR,TS,h,obind_some,isL]
 by_cases h0:(97:Int)≤n∧(n:Int)≤122
 · simp [h0]
 · by_cases h1:(65:Int)≤n<;>by_cases h2:(n:Int)≤90<;>simp [h0,h1,h2]
theorem s109 (n:Nat):Sz109 ((n:Int),())=some (isD n):=by
 show(axQ (n:Int)).d noE=_
 simp only [axQ,TS,isD]
 by_cases h1:(48:Int)≤n<;>by_cases h2:(n:Int)≤57<;>simp [h1,h2]
theorem s111 (n:Nat):axV ((n:Int),())=some (isL n):=by
 show(axN (n:Int)).d noE=_
 simp only [axN,TS,isL]
 by_cases h1:(65:Int)≤n<;>by_cases h2:(n:Int)≤90<;>by_cases h3:(97:Int)≤n<;>by_cases h4:(n:Int)≤122<;>simp [h1,h2,h3,h4]
theorem s112 (n:Nat):Sz112 ((n:Int),())=some (isD n):=by
 show(axM (n:Int)).d noE=_
 simp only [axM,TS,isD]
 by_cases h1:(48:Int)≤n<;>by_cases h2:(n:Int)≤57<;>simp [h1,h2]
theorem rR {s:List Nat}{k c:Nat}(h:s[k]? = some c):(s.drop k).all isW=(isW c&&(s.drop (k+1)).all isW):=by
 obtain⟨hk,rfl⟩:=List.getElem?_eq_some_iff.1 h
 rw [List.drop_eq_getElem_cons hk,List.all_cons]
theorem wU {n:Nat}(h:128≤n):isL n=false∧isD n=false∧(n==95)=false:=by
 refine⟨by simp [isL];omega,by simp [isD];omega,by simp;omega⟩
theorem i95 {n:Nat}:(((n:Nat):Int)==95)=(n==95):=by
 by_cases h:n=95
 · simp [h]
 · rw [show(n==95)=false by simpa using h];simp;omega
theorem nm_j (s:List Nat) (hb:dE s=true):∀j n k,k+j=s.length→0<k→Tr.lp (vW s) (n+j+1) (.k8 k)=some ((s.drop k).all isW):=by
 intro j
 induction j with
 | zero=>
   intro n k hk h0
   rw [Tr.lp_s]
   simp only [vW,TS,blt_f (show ¬k<s.length by omega),cond_false,List.drop_eq_nil_of_le (show s.length≤k by omega)];rfl
 | succ j ih=>
   intro n k hk h0
   have hlt:k<s.length:=by omega
   obtain⟨x,hx⟩:=eW hlt
   rw [Tr.lp_s]
   simp only [vW,TS,blt_t hlt,cond_true,s108,s109,obind_some,rR hx,i95]
   rw [show(((k:Nat):Int)==0)=false by simp;omega,cond_false]
   by_cases hc:x<128
   · rw [wK hx hc]
     simp only
     rw [show n+(j+1)=n+j+1 by omega,ih n (k+1) (by omega) (by omega)]
     simp only [isW]
     cases isL x<;>cases isD x<;>cases(x==95)<;>rfl
   · obtain ⟨h1,h2,h3⟩:=wU (wL hb hx hc)
     obtain⟨g1,g2,g3⟩:=wU (show 128≤x by omega)
     simp only [h1,h2,h3,isW,g1,g2,g3,Bool.not_false,cond_true,Bool.or_false,Bool.false_and]
theorem s73 (s:List Nat) (hb:dE s=true):Sz73 (s,())=some (nmB s):=by
 show Ez73 (s.length+64) s=_
 unfold Ez73 Tz73
 simp only [TS,s136,obind_some,nmB]
 by_cases h:1≤s.length∧s.length≤24
 · rw [show decide ((1:Int)≤((s.length:Nat):Int)∧((s.length:Nat):Int)≤24)=true by simp;omega,show decide (1≤s.length∧s.length≤24)=true by simpa using h]
   simp only [Bool.not_true,cond_false,Bool.true_and]
   obtain⟨x,hx⟩:=eW (show 0<s.length by omega)
   show Tr.lp (vW s) (s.length+64) (.k8 0)=_
   obtain⟨j,hj⟩:∃j,s.length=j+1:=⟨s.length-1,by omega⟩
   rw [show s.length+64=(62+1+j+1)+1 by omega,Tr.lp_s]
   have hal:=rR hx
   rw [List.drop_zero]at hal
   simp only [vW,TS,blt_t (show 0<s.length by omega),cond_true,s108,s109,obind_some,aM hx,hal,nc0,beq_self_eq_true]
   by_cases hc:x<128
   · rw [wK hx hc]
     simp only
     rw [nm_j s hb j (62+1) (0+1) (by omega) (by omega)]
     simp only [isW]
     cases isL x<;>rfl
   · obtain ⟨h1,h2,h3⟩:=wU (wL hb hx hc)
     obtain⟨g1,g2,g3⟩:=wU (show 128≤x by omega)
     simp only [h1,h2,h3,isW,g1,g2,g3,Bool.not_false,cond_true,Bool.or_false,Bool.false_and]
 · rw [show decide ((1:Int)≤((s.length:Nat):Int)∧((s.length:Nat):Int)≤24)=false by simp;omega,show decide (1≤s.length∧s.length≤24)=false by simpa using h]
   simp only [Bool.not_false,cond_true,Bool.false_and]
theorem rn_j (s:List Nat) (hl:s.length<1000):∀j n k,k+j=s.length→Tr.lp (y7 s) (n+j+1) (.k8 (k:Int))=some ((s.drop k).all isW):=by
 intro j
 induction j with
 | zero=>
   intro n k hk
   rw [Tr.lp_s]
   simp only [y7,TS,j4 (show ¬k<s.length by omega),cond_false,List.drop_eq_nil_of_le (show s.length≤k by omega)];rfl
 | succ j ih=>
   intro n k hk
   have hlt:k<s.length:=by omega
   obtain⟨x,hx⟩:=eW hlt
   rw [Tr.lp_s]
   simp only [y7,TS,j3 hlt,eQ hlt,cond_true,Int.toNat_natCast,aM hx,s111,s112,obind_some,rR hx,i95,w6s (show k<9223372036854775807 by omega)]
   rw [show n+(j+1)=n+j+1 by omega,ih n (k+1) (by omega)]
   simp only [isW]
   cases isL x<;>cases isD x<;>cases(x==95)<;>rfl
theorem s77 (s:List Nat) (hl:s.length<1000):Sz77 (s,())=some (nmB s):=by
 show Ez77 (s.length+64) s=_
 unfold Ez77 Tz77
 simp only [TS,nmB]
 by_cases h0:s.length=0
 · rw [show(((s.length:Nat):Int)==0)=true by simp [h0],show decide (1≤s.length∧s.length≤24)=false by simp;omega]
   simp only [cond_true,Bool.false_and]
 · rw [show(((s.length:Nat):Int)==0)=false by rw [beq_eq_false_iff_ne];omega,cond_false]
   by_cases h1:24<s.length
   · rw [show decide ((24:Int)<((s.length:Nat):Int))=true by simp;omega,show decide (1≤s.length∧s.length≤24)=false by simp;omega]
     simp only [cond_true,Bool.false_and]
   · rw [show decide ((24:Int)<((s.length:Nat):Int))=false by simp;omega,show decide (1≤s.length∧s.length≤24)=true by simp;omega]
     obtain⟨x,hx⟩:=eW (show 0<s.length by omega)
     have hi:=eQ (show 0<s.length by omega)
     rw [nc0]at hi
     simp only [cond_false,hi,cond_true,s111,obind_some,Bool.true_and]
     have:=rn_j s hl s.length 63 0 (by omega)
     rw [List.drop_zero,nc0]at this
     show cond (!isL (s.getD 0 0)) (some false) (Tr.lp (y7 s) (s.length+64) (.k8 0))=_
     rw [fu,this]
     cases isL (s.getD 0 0)<;>rfl
end
end Go.Ev
