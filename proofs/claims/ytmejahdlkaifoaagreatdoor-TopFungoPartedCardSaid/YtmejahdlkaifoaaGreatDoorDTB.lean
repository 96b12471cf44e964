import Derived.Test.YtmejahdlkaifoaaGreatDoorDTA
set_option linter.unusedSimpArgs false
set_option linter.unusedVariables false
namespace Go.Ev
open Go.RowKit Go.Proofs
set_option maxRecDepth 100000
set_option maxHeartbeats 8000000
set_option linter.unusedSimpArgs false
set_option linter.unusedVariables false
noncomputable section
theorem vL {a:Tn}:m7 (a,())=aH (ajb (a,())) fun r=>cond r (some (1:Int)) (aH (aqQ (a,())) fun r=>cond r (some 2) (aH (aqP (a,())) fun r=>cond r (some 3) (aH (aqO (a,())) fun r=>cond r (some 4) (aH (aqN (a,())) fun r=>cond r (some 5) (aH (aqM (a,())) fun r=>cond r (some 6) (aH (aqL (a,())) fun r=>cond r (some 7) (aH (aqK (a,())) fun r=>cond r (some 8) (aH (aqJ (a,())) fun r=>cond r (some 9) (aH (aqI (a,())) fun r=>cond r (some 10) (aH (aqH (a,())) fun r=>cond r (some 11) (aH (aqG (a,())) fun r=>cond r (some 12) (aH (aqF (a,())) fun r=>cond r (some 13) (some 0))))))))))))):=by
 show ayA (a.p_m.length+64) a=_
 unfold ayA bq0
 simp only [TS,w6]
 have e74:Sz74 ()=Ez74:=rfl
 rw [e74]
 unfold Ez74 Tz74
 simp only [TS,w6]
 rw [obind_some,show a.p_m.length+64=(a.p_m.length+50)+14 from rfl]
 generalize a.p_m.length+50=n
 rw [bjM a (n+13),bjL a (n+12),bjK a (n+11),bjJ a (n+10),bjI a (n+9),bjH a (n+8),bjG a (n+7),bjF a (n+6),bjE a (n+5),bjD a (n+4),avP a (n+3),avO a (n+2),avN a (n+1),avM a n]
theorem s144_eq {a b:Tn}(h1:ajb (a,())=ajb (b,())) (h2:aqQ (a,())=aqQ (b,())) (h3:aqP (a,())=aqP (b,())) (h4:aqO (a,())=aqO (b,())) (h5:aqN (a,())=aqN (b,())) (h6:aqM (a,())=aqM (b,())) (h7:aqL (a,())=aqL (b,())) (h8:aqK (a,())=aqK (b,())) (h9:aqJ (a,())=aqJ (b,())) (h10:aqI (a,())=aqI (b,())) (h11:aqH (a,())=aqH (b,())) (h12:aqG (a,())=aqG (b,())) (h13:aqF (a,())=aqF (b,())):m7 (a,())=m7 (b,()):=by
 rw [vL,vL,h1,h2,h3,h4,h5,h6,h7,h8,h9,h10,h11,h12,h13]
theorem akA {a:Tn}(h1:ajb (a,())=some false) (h2:aqQ (a,())=some false) (h3:aqP (a,())=some false) (h4:aqO (a,())=some false) (h5:aqN (a,())=some false) (h6:aqM (a,())=some false) (h7:aqL (a,())=some false) (h8:aqK (a,())=some false) (h9:aqJ (a,())=some false) (h10:aqI (a,())=some false) (h11:aqH (a,())=some false) (h12:aqG (a,())=some false) (h13:aqF (a,())=some false):m7 (a,())=some 0:=by
 rw [vL,h1,h2,h3,h4,h5,h6,h7,h8,h9,h10,h11,h12,h13];rfl
def b6 (a:List Nat):Pl:=⟨a,[],false,[]⟩
def stW (s:St) (c:Cnt):St:=⟨s.inn,s.half,s.outs,c.1,c.2,s.b1,s.b2,s.b3,s.n0,s.n1,s.c0,s.c1,s.over⟩
def plW (t:Pl) (b:List Nat):Pl:=⟨b,t.e,t.l,t.m⟩
theorem mAt0 (k:Int):mAt [] k=none:=rfl
theorem outs0 {s:St}(G:Good s) (a:List Nat):outsI s (b6 a)=s.outs:=by
 have:=G.outs
 show IntKind.i64.wrap (s.outs+0)=_
 rw [cG]<;>omega
theorem ord0 {b1 b2 b3:Int}:akN (placeB [] b1 b2 b3 0) (placeB [] b1 b2 b3 1) (placeB [] b1 b2 b3 2) (placeB [] b1 b2 b3 3)=false:=by
 unfold placeB
 simp only [mAt0]
 by_cases h1:b1=0<;>by_cases h2:b2=0<;>by_cases h3:b3=0<;>simp [bzB,h1,h2,h3,akN,badP]
section
variable {s:St}{t:Pl}{a b:List Nat}{c1 c2:Cnt}
theorem azV (P:bjj s a b c1 c2) (ha:a≠[]) (G:Good s):pW s (b6 a):=by
 have e:fJ s (b6 a)=((c1.1,c1.2,()),0,0,()):=P.one
 refine⟨by rw [e],by simp [b6,mAt0],rfl,fun m hm=>by simp [b6,mAt0]at hm,ord0,?_,rfl,?_⟩
 · rw [outs0 G];have:=G.outs;omega
 · rw [e]
   show pS (askC (c1.1,c1.2) a) []=true
   rw [show((c1.1,c1.2):Cnt)=c1 from rfl,P.ask ha];rfl
theorem aki (P:bjj s a b c1 c2) (ha:a≠[]) (hl:a.length<9223372036854775808) (G:Good s):m7 (cC s (b6 a),())=some 0:=by
 have e:fJ s (b6 a)=((c1.1,c1.2,()),0,0,()):=P.one
 have hv:vEv (cC s (b6 a)).p_e:=.inl rfl
 have h:aB (cC s (b6 a)).p_m=0:=rfl
 have i1:=P.in1
 refine akA ?_ ?_ ?_ ?_ ?_ ?_ ?_ ?_ ?_ ?_ ?_ ?_ ?_
 · show some (!((fJ s (b6 a)).2.2.1==0))=_
   rw [e];rfl
 · refine (r2_p hv hl ?_).trans ?_
   · show 0≤(fJ s (b6 a)).1.1∧(fJ s (b6 a)).1.1≤4∧0≤(fJ s (b6 a)).1.2.1∧(fJ s (b6 a)).1.2.1≤3∧¬((fJ s (b6 a)).1.1=4∧(fJ s (b6 a)).1.2.1=3)
     rw [e];dsimp only;omega
   · show some (!pS (askC ((fJ s (b6 a)).1.1,(fJ s (b6 a)).1.2.1) a) [])=_
     rw [e]
     dsimp only
     rw [show((c1.1,c1.2):Cnt)=c1 from rfl,P.ask ha];rfl
 · exact(r3_p h).trans rfl
 · exact(r4_p h).trans rfl
 · exact(r5_p h hv rfl).trans rfl
 · exact(r6_p h hv).trans rfl
 · exact(r7_p hv).trans rfl
 · exact(r8_p h hv).trans rfl
 · exact(r9_p h).trans rfl
 · exact(ay0 h hv).trans rfl
 · exact(ayZ h).trans (congrArg some ord0)
 · refine ayY.trans (congrArg some ?_)
   show decide (3<outsI s (b6 a))=false
   rw [outs0 G];have:=G.outs;simp;omega
 · exact(ayX h).trans rfl
theorem ayJ {c:Int}(h:0≤c∧c≤9999):IntKind.i64.wrap (c+((0:Nat):Int))=c:=by rw [cG]<;>omega
theorem runs0 {o:Int}:(qT o false []).length=0:=by unfold qT;split<;>rfl
theorem ref0 (G:Good s) {i:Int}(hi:i=1∨i=2∨i=3):lB s (b6 a) i=if i=1 then s.b1 else if i=2 then s.b2 else s.b3:=by
 unfold lB pl sl slotI
 show setB i (placeB [] s.b1 s.b2 s.b3 3) _ (setB i (placeB [] s.b1 s.b2 s.b3 2) _ (setB i (placeB [] s.b1 s.b2 s.b3 1) _ (setB i (placeB [] s.b1 s.b2 s.b3 0) _ 0)))=_
 unfold placeB
 simp only [mAt0]
 rcases hi with rfl|rfl|rfl<;>by_cases h1:s.b1=0<;>by_cases h2:s.b2=0<;>by_cases h3:s.b3=0<;>simp [bzB,h1,h2,h3,setB]
theorem akj (P:bjj s a b c1 c2) (G:Good s) (hc:0≤s.c0∧s.c0≤9999∧0≤s.c1∧s.c1≤9999):mvd s (b6 a)=stW s c1:=by
 have e:fJ s (b6 a)=((c1.1,c1.2,()),0,0,()):=P.one
 have r1:=ref0 (s:=s) (a:=a) G (i:=1) (by simp)
 have r2:=ref0 (s:=s) (a:=a) G (i:=2) (by simp)
 have r3:=ref0 (s:=s) (a:=a) G (i:=3) (by simp)
 have rn:runsN s (b6 a)=((0:Nat):Int):=congrArg (fun n:Nat=>(n:Int)) runs0
 unfold mvd stW
 rw [e,r1,r2,r3,outs0 G,rn,ayJ ⟨hc.1,hc.2.1⟩,ayJ ⟨hc.2.2.1,hc.2.2.2⟩]
 simp [b6]
theorem akh (G:Good s) (hd:decB s=false):nxt (stW s c1)=stW s c1:=by
 have d:decI (stW s c1)=false:=by
  rw [←hd]
  unfold decI decB leadB stW
  dsimp only
  rw [Bool.eq_iff_iff]
  simp [and_assoc]
 have o:((stW s c1).outs==3)=false:=by
  have:=G.outs
  show(s.outs==3)=false
  simp;omega
 unfold nxt
 rw [d,o];rfl
theorem fitW:fitB (stW s c1)=fitB s:=rfl
theorem stE_W (h:stE s=0) (ho:s.over=false) (hc:0≤c1.1∧c1.1≤3∧0≤c1.2∧c1.2≤2):stE (stW s c1)=0:=by
 obtain⟨h1,h2,h3,h4,h5⟩:=mF h
 have n:nuB (stW s c1) 2=true:=by
  simp only [nuB,baB,cnB,inB,Bool.and_eq_true,decide_eq_true_eq]at h3 ⊢
  simp only [stW]
  omega
 have d:((stW s c1).over&&!overB (stW s c1)||!(stW s c1).over&&decB (stW s c1))=false:=by
  have o:(stW s c1).over=false:=ho
  have d1:decB (stW s c1)=decB s:=rfl
  rw [o,d1]
  unfold ayt at h4
  rw [ho]at h4
  simp only [Bool.false_and,Bool.not_false,Bool.true_and,Bool.false_or]at h4 ⊢
  cases hd:decB s with
  | false=>rfl
  | true=>simp [hd]at h4
 rw [bjN,n,d,fitW,h5]
 have i1:inB (stW s c1).inn 1 30=true:=h1
 have i2:inB (stW s c1).half 0 1=true:=h2
 rw [i1,i2];rfl
theorem dec_of (h:stE s=0) (ho:s.over=false):decB s=false:=by
 have h4:=(mF h).2.2.2.1
 unfold ayt at h4
 rw [ho]at h4
 simp only [Bool.false_and,Bool.not_false,Bool.true_and,Bool.false_or]at h4
 cases hd:decB s with
 | false=>rfl
 | true=>simp [hd]at h4
theorem scores (h:stE s=0):0≤s.c0∧s.c0≤9999∧0≤s.c1∧s.c1≤9999:=by
 have h3:=(mF h).2.2.1
 simp only [nuB,baB,cnB,inB,Bool.and_eq_true,decide_eq_true_eq]at h3
 omega
theorem cntW (P:bjj s a b c1 c2) (hp:t.p=a++b):fJ (stW s c1) (plW t b)=fJ s t:=by
 have e1:fJ (stW s c1) (plW t b)=((c2.1,c2.2,()),0,0,()):=P.two
 have e2:fJ s t=((c2.1,c2.2,()),0,0,()):=by unfold fJ;rw [hp];exact P.all
 rw [e1,e2]
theorem c8W (hb:b≠[]) (hp:t.p=a++b):c8 (cC (stW s c1) (plW t b))=c8 (cC s t):=by
 have hpe:t.p≠[]:=by rw [hp];simp [hb]
 funext m
 unfold c8 wayB
 show(decide (0<m.f)&&!(if m.h=[98]then _ else if m.h=[97]then _ else if m.h=[115]then _ else if m.h=[112]then(_&&!decide (b=[]))else _))=(decide (0<m.f)&&!(if m.h=[98]then _ else if m.h=[97]then _ else if m.h=[115]then _ else if m.h=[112]then(_&&!decide (t.p=[]))else _))
 rw [decide_eq_false hb,decide_eq_false hpe];rfl
theorem azH (P:bjj s a b c1 c2) (hb:b≠[]) (hp:t.p=a++b) (h:aB t.m=0) (hv:vEv t.e) (hl:t.p.length≤24) (g:pW s t):m7 (cC (stW s c1) (plW t b),())=m7 (cC s t,()):=by
 have e:=cntW P hp
 have hk:=ajX g.cnt
 have hlb:b.length<9223372036854775808:=by rw [hp,List.length_append]at hl;omega
 refine s144_eq ?_ ?_ ?_ ?_ ?_ ?_ ?_ ?_ ?_ ?_ ?_ ?_ ?_
 · show some (!((fJ (stW s c1) (plW t b)).2.2.1==0))=some (!((fJ s t).2.2.1==0))
   rw [e]
 · refine (r2_p (s:=cC (stW s c1) (plW t b)) hv hlb ?_).trans (Eq.trans ?_ (r2_p (s:=cC s t) hv (show t.p.length<9223372036854775808 by omega) hk).symm)
   · show 0≤(fJ (stW s c1) (plW t b)).1.1∧(fJ (stW s c1) (plW t b)).1.1≤4∧0≤(fJ (stW s c1) (plW t b)).1.2.1∧(fJ (stW s c1) (plW t b)).1.2.1≤3∧¬((fJ (stW s c1) (plW t b)).1.1=4∧(fJ (stW s c1) (plW t b)).1.2.1=3)
     rw [e];exact hk
   · show some (!pS (askC ((fJ (stW s c1) (plW t b)).1.1,(fJ (stW s c1) (plW t b)).1.2.1) b) t.e)=some (!pS (askC ((fJ s t).1.1,(fJ s t).1.2.1) t.p) t.e)
     rw [e,hp,xC hb]
 · exact(r3_p (s:=cC (stW s c1) (plW t b)) h).trans (r3_p (s:=cC s t) h).symm
 · exact(r4_p (s:=cC (stW s c1) (plW t b)) h).trans (r4_p (s:=cC s t) h).symm
 · exact(r5_p (s:=cC (stW s c1) (plW t b)) h hv g.has).trans (r5_p (s:=cC s t) h hv g.has).symm
 · exact(r6_p (s:=cC (stW s c1) (plW t b)) h hv).trans (r6_p (s:=cC s t) h hv).symm
 · exact(r7_p (s:=cC (stW s c1) (plW t b)) hv).trans (r7_p (s:=cC s t) hv).symm
 · refine (r8_p (s:=cC (stW s c1) (plW t b)) h hv).trans (Eq.trans ?_ (r8_p (s:=cC s t) h hv).symm)
   rw [c8W hb hp];rfl
 · exact(r9_p (s:=cC (stW s c1) (plW t b)) h).trans (r9_p (s:=cC s t) h).symm
 · exact(ay0 (s:=cC (stW s c1) (plW t b)) h hv).trans (ay0 (s:=cC s t) h hv).symm
 · exact(ayZ (s:=cC (stW s c1) (plW t b)) h).trans (ayZ (s:=cC s t) h).symm
 · exact(ayY (s:=cC (stW s c1) (plW t b))).trans (ayY (s:=cC s t)).symm
 · exact(ayX (s:=cC (stW s c1) (plW t b)) h).trans (ayX (s:=cC s t) h).symm
theorem aqf (P:bjj s a b c1 c2) (hb:b≠[]) (hp:t.p=a++b) (g:pW s t):pW (stW s c1) (plW t b):=by
 have e:=cntW P hp
 refine⟨by rw [e];exact g.cnt,g.has,g.four,g.fits,g.order,g.outs,g.late,?_⟩
 rw [e]
 have:=g.asks
 rw [hp,xC hb]at this
 exact this
theorem azI (P:bjj s a b c1 c2) (hp:t.p=a++b):mvd (stW s c1) (plW t b)=mvd s t:=by
 unfold mvd
 rw [cntW P hp];rfl
theorem azJ:axh (stW s c1) (plW t b)=axh s t:=rfl
theorem playE_parts {p e:List Nat}{l:List Mv}(h:playE p e l=0):dP p=0∧kW e=0∧aB l=0:=by
 unfold playE at h
 simp only [cE]at h
 by_cases h1:dP p=0
 · by_cases h2:kW e=0
   · by_cases h3:aB l=0
     · exact⟨h1,h2,h3⟩
     · simp [h1,h2,h3]at h
   · simp [h1,h2]at h
 · simp [h1]at h
theorem playE_whole {p e:List Nat}{l:List Mv}(h1:dP p=0) (h2:kW e=0) (h3:aB l=0):playE p e l=0:=by
 unfold playE
 simp [cE,h1,h2,h3]
theorem azL (h:dP (a++b)=0):dP a=0∧dP b=0:=by
 unfold dP at h
 split at h
 · rename_i hl
   split at h
   · rename_i hp
     obtain⟨p1,p2⟩:=pit_app hp
     rw [List.length_append]at hl
     unfold dP
     rw [if_pos (by omega),if_pos p1,if_pos (by omega),if_pos p2]
     exact⟨rfl,rfl⟩
   · simp at h
 · simp at h
end
end
end Go.Ev
