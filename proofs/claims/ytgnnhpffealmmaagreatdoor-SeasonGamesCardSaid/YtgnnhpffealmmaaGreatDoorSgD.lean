import Derived.Test.YtgnnhpffealmmaaGreatDoorSgC
set_option linter.unusedSimpArgs false
set_option linter.unusedVariables false
namespace Go.Ev
open Go.RowKit Go.Proofs
set_option maxRecDepth 100000
set_option maxHeartbeats 4000000
set_option linter.unusedSimpArgs false
set_option linter.unusedVariables false
noncomputable section
def shL (x:Ln):Bool:=!decide (60<x.p.length)&&!decide (60<x.t.length)
def shG (g:Gm):Bool:=!decide (60<g.n.length)&&(!decide (60<g.t0.length)&&(!decide (60<g.t1.length)&&(!(decide (6<g.l.length)&&decide (g.l.length≤60))&&(!decide (62<g.l.length)&&g.l.all shL))))
theorem ajI {p:Ln→Bool}{l:List Ln}{k:Nat}{x:Ln}(h:l[k]? = some x):(l.drop k).all p=(p x&&(l.drop (k+1)).all p):=by
 obtain⟨hk,rfl⟩:=List.getElem?_eq_some_iff.1 h
 rw [List.drop_eq_getElem_cons hk,List.all_cons]
theorem ajK {p:Gm→Bool}{l:List Gm}{k:Nat}{x:Gm}(h:l[k]? = some x):(l.drop k).all p=(p x&&(l.drop (k+1)).all p):=by
 obtain⟨hk,rfl⟩:=List.getElem?_eq_some_iff.1 h
 rw [List.drop_eq_getElem_cons hk,List.all_cons]
theorem d60 (b:Nat):decide ((60:Int)<((b:Nat):Int))=decide (60<b):=by rw [Bool.eq_iff_iff];simp;omega
theorem d62 (b:Nat):decide ((62:Int)<((b:Nat):Int))=decide (62<b):=by rw [Bool.eq_iff_iff];simp;omega
theorem d6 (b:Nat):decide ((6:Int)<((b:Nat):Int))=decide (6<b):=by rw [Bool.eq_iff_iff];simp;omega
theorem d60' (b:Nat):decide (((b:Nat):Int)≤60)=decide (b≤60):=by rw [Bool.eq_iff_iff];simp;omega
section
variable {s:List Gm}{t:Int}
theorem s5_l {i:Nat}{g:Gm}(hg:s[i]? = some g) (hs:s.length≤66) (hl:g.l.length≤62):∀j n k,k+j=g.l.length→Ez5J s t (n+j+1) (.k18 (k:Int) (i:Int))=cond ((g.l.drop k).all shL) (Ez5J s t n (.k8 ((i+1:Nat):Int))) (some false):=by
 have hi:i<s.length:=(List.getElem?_eq_some_iff.1 hg).1
 intro j
 induction j with
 | zero=>
   intro n k hk
   rw [xS,List.drop_eq_nil_of_le (show g.l.length≤k by omega)]
   simp only [Tz5J,TS,eQ hi,cond_true,Int.toNat_natCast,aM hg,j4 (show ¬k<g.l.length by omega),cond_false,w6s (show i<9223372036854775807 by omega),List.all_nil]
 | succ j ih=>
   intro n k hk
   have hlt:k<g.l.length:=by omega
   obtain⟨x,hx⟩:=eW hlt
   rw [show n+(j+1)+1=(n+j+1)+1 by omega,xS]
   simp only [Tz5J,TS,eQ hi,cond_true,Int.toNat_natCast,aM hg,j3 hlt,eQ hlt,aM hx,d60,w6s (show k<9223372036854775807 by omega),ajI hx]
   rw [ih n (k+1) (by omega)]
   unfold shL
   cases decide (60<x.p.length)<;>cases decide (60<x.t.length)<;>rfl
theorem s5_j (hs:s.length≤66):∀j n k,k+j=s.length→Ez5J s t (n+64*j+1) (.k8 (k:Int))=some ((s.drop k).all shG):=by
 intro j
 induction j with
 | zero=>
   intro n k hk
   rw [xS,List.drop_eq_nil_of_le (show s.length≤k by omega)]
   simp only [Tz5J,TS,j4 (show ¬k<s.length by omega),cond_false,List.all_nil]
 | succ j ih=>
   intro n k hk
   have hlt:k<s.length:=by omega
   obtain⟨g,hg⟩:=eW hlt
   rw [show n+64*(j+1)+1=(n+64*j+64)+1 by omega,xS]
   simp only [Tz5J,TS,j3 hlt,eQ hlt,cond_true,Int.toNat_natCast,aM hg,d60,d62,d6,d60',ajK hg]
   have fin:g.l.length≤62→Ez5J s t (n+64*j+64) (.k18 0 (k:Int))=some (g.l.all shL&&(s.drop (k+1)).all shG):=by
    intro h
    have q:=s5_l (t:=t) hg hs h g.l.length (n+(62-g.l.length)+64*j+1) 0 (by omega)
    rw [List.drop_zero,nc0,show n+(62-g.l.length)+64*j+1+g.l.length+1=n+64*j+64 by omega,ih (n+(62-g.l.length)) (k+1) (by omega)]at q
    rw [q]
    cases g.l.all shL<;>rfl
   rw [show shG g=(!decide (60<g.n.length)&&(!decide (60<g.t0.length)&&(!decide (60<g.t1.length)&&(!(decide (6<g.l.length)&&decide (g.l.length≤60))&&(!decide (62<g.l.length)&&g.l.all shL)))))from rfl]
   cases decide (60<g.n.length)
   · cases decide (60<g.t0.length)
     · cases decide (60<g.t1.length)
       · by_cases h62:62<g.l.length
         · rw [show decide (62<g.l.length)=true by simpa using h62]
           cases decide (6<g.l.length)<;>cases decide (g.l.length≤60)<;>rfl
         · rw [show decide (62<g.l.length)=false by simpa using h62,fin (by omega)]
           cases decide (6<g.l.length)<;>cases decide (g.l.length≤60)<;>simp
       · simp
     · simp
   · simp
def shB (t:Int) (s:List Gm):Bool:=!(decide (t<((s.length:Nat):Int))&&decide (s.length≤64))&&(!decide (66<s.length)&&s.all shG)
theorem s5 (s:List Gm) (t:Int):Sz5 (s,t,())=some (shB t s):=by
 show Ez5 (s.length*64+64) s t=_
 unfold Ez5 Tz5 shB
 simp only [TS,show decide (((s.length:Nat):Int)≤64)=decide (s.length≤64) by rw [Bool.eq_iff_iff];simp;omega,show decide ((66:Int)<((s.length:Nat):Int))=decide (66<s.length) by rw [Bool.eq_iff_iff];simp;omega]
 by_cases h:66<s.length
 · rw [show decide (66<s.length)=true by simpa using h]
   cases decide (t<((s.length:Nat):Int))<;>cases decide (s.length≤64)<;>rfl
 · have q:=s5_j (s:=s) (t:=t) (by omega) s.length 63 0 (by omega)
   rw [List.drop_zero,nc0,show 63+64*s.length+1=s.length*64+64 by omega]at q
   rw [show decide (66<s.length)=false by simpa using h,q]
   cases decide (t<((s.length:Nat):Int))<;>cases decide (s.length≤64)<;>simp
end
theorem aj1 {g:Gm}(h:shG g=true):LnG g∧g.l.length≤62:=by
 unfold shG at h
 simp only [Bool.and_eq_true,Bool.not_eq_true',decide_eq_false_iff_not,List.all_eq_true,shL]at h
 obtain⟨h1,h2,h3,h4,h5,h6⟩:=h
 exact⟨⟨by omega,by omega,by omega,fun x hx=>by have:=(h6 x hx).1;omega,by omega⟩,by omega⟩
def wQ:List (List Nat):=[[97,98],[104],[100],[116],[104,114],[114],[114,98,105],[119],[107],[115,98],[112,111],[101]]
theorem e13:Sz13 ()=some wQ:=by kernel_rfl
theorem e14:Sz14 ()=some wQ:=by kernel_rfl
theorem e12:Sz12 (wQ,wQ,())=some true:=by kernel_rfl
theorem ax9 {s:List Gm}(h:s.length≤66) (hg:∀g∈s,shG g=true):Sh33 (s,())=some s:=by
 unfold Sh33
 rw [if_pos]
 simp only [ownOK,Bool.and_eq_true,decide_eq_true_eq,List.all_eq_true]
 exact⟨by omega,fun g hm=>by have:=(aj1 (hg g hm)).2;omega⟩
theorem law3 (s:List Gm) (t:Gm) (hs:∀g∈s,ByG g) (ht:ByG t):Sz3 (s,t,())=some true:=by
 show Ez3 (s.length+64) s t=_
 have sw:Sw4 ()=some true:=rfl
 unfold Ez3 Tz3
 simp only [TS]
 rw [show s.length+64=(s.length+62+1)+1 by omega,axq]
 simp only [Tz3J,TS,sw,obind_some,Bool.not_true,cond_false,s5]
 cases h1:shB 6 s with
 | false=>rfl
 | true=>
 cases h2:shB 1 [t]with
 | false=>rfl
 | true=>
 simp only [Bool.not_true,cond_false]
 rw [axq]
 simp only [shB,Bool.and_eq_true,Bool.not_eq_true',decide_eq_false_iff_not,List.all_eq_true]at h1 h2
 have hsg:∀g∈s,shG g=true:=h1.2.2
 have htg:shG t=true:=h2.2.2 t (List.mem_singleton.2 rfl)
 have hl:s.length≤66:=by have:=h1.2.1;omega
 have okS:∀g∈s,Ok g:=fun g hg=>⟨hs g hg,(aj1 (hsg g hg)).1⟩
 have e7:Sz7 (s,())=some ⟨s⟩:=by
  show(Tz7 s).d noE=_
  simp only [Tz7,TS,ax9 hl hsg,obind_some]
 have e10:Sz10 (t,())=some t:=by
  show Ez10 64 t=_
  unfold Ez10 Tz10
  simp only [TS]
  rw [show(64:Nat)=63+1 from rfl,Ez10J_s]
  simp only [axP,TS,ax9 (s:=[t]) (by simp) (by intro g hg;rw [List.mem_singleton.1 hg];exact htg),obind_some]
  rfl
 simp only [Tz3J,TS,e7,obind_some,s6 s (by omega) okS,s8 s (by omega) okS,beq_self_eq_true,cond_true,e10,s9 t (aj1 htg).1.c ht,s11 t (aj1 htg).1,e13,e14,e12]
end
end Go.Ev
