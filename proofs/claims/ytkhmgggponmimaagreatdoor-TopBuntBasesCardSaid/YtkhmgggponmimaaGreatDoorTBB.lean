import Derived.Test.YtkhmgggponmimaaGreatDoorG4
import Derived.Test.YtkhmgggponmimaaGreatDoorDT1
set_option linter.unusedSimpArgs false
set_option linter.unusedVariables false
namespace Go.Ev
open Go.RowKit Go.Proofs
set_option maxRecDepth 100000
set_option maxHeartbeats 40000000
set_option linter.unusedSimpArgs false
set_option linter.unusedVariables false
noncomputable section
def gA (l:List Mv) (g:Mv→Int) (f:Int):Int:=match mAt l f with
 | none=>0
 | some m=>g m
theorem z6 {l:List Mv}(h:aC l=0) (g:Mv→Int):(l.map g).sum=gA l g 3+(gA l g 2+(gA l g 1+gA l g 0)):=by
 refine sh_cases h ?_ ?_ ?_ ?_ ?_ ?_ ?_ ?_ ?_ ?_ ?_ ?_ ?_ ?_ ?_ ?_<;>intros<;>(try simp only [vMv]at *)<;>simp_all [gA,mAt]<;>omega
def lo (a f:Int):Int:=if a=0 then f else 0
def ba (a f:Int):Int:=if 0<a then a-f else 0
def ru (a:Int):Int:=if a=4 then 1 else 0
def kQ (m:Mv):Int:=if m.o=true then m.f else 0
def uH (m:Mv):Int:=if m.o=true then 0 else m.t-m.f
def runM (m:Mv):Int:=if rnM m=true then 1 else 0
theorem bR {l:List Mv}(h:aC l=0) (f:Int):gA l kQ f=lo (act l f) f∧gA l uH f=ba (act l f) f∧gA l runM f=ru (act l f):=by
 unfold gA act
 cases hm:mAt l f with
 | none=>simp [lo,ba,ru]
 | some m=>
   obtain⟨h1,h2⟩:=xT h hm
   have hr:=fQ h2
   dsimp only
   unfold kQ uH runM rnM lo ba ru
   cases ho:m.o with
   | true=>simp [h1]
   | false=>
     have h0:¬m.t=0:=by omega
     have h3:0<m.t:=by omega
     by_cases h4:m.t=4
     · simp [h4,h1]
     · simp [h0,h3,h4,h1]
def pl1 (b:Bool) (i:Int):Int:=bif b then i else 0
def chkP (a0 a1 a2 a3:Int) (e1 e2 e3:Bool):Bool:=(e1&&!(a1==-1))||((e2&&!(a2==-1))||((e3&&!(a3==-1))||(awW (pT a0 true 0) (pT a1 e1 1) (pT a2 e2 2) (pT a3 e3 3) ||
 (pl1 (!(xJ a0 a1 a2 a3 e1 e2 e3 1==0)) 1+(pl1 (!(xJ a0 a1 a2 a3 e1 e2 e3 2==0)) 2+pl1 (!(xJ a0 a1 a2 a3 e1 e2 e3 3==0)) 3) ==
  pl1 (!e1) 1+(pl1 (!e2) 2+pl1 (!e3) 3)-(lo a3 3+(lo a2 2+(lo a1 1+lo a0 0)))+(ba a3 3+(ba a2 2+(ba a1 1+ba a0 0)))-4*(ru a3+(ru a2+(ru a1+ru a0)))))))
theorem ay1:([-1,0,1,2,3,4].all fun a0=>[-1,0,2,3,4].all fun a1=>[-1,0,3,4].all fun a2=>[-1,0,4].all fun a3=>[true,false].all fun e1=>[true,false].all fun e2=>[true,false].all fun e3=>chkP a0 a1 a2 a3 e1 e2 e3)=true:=by kernel_rfl
end
end Go.Ev
namespace Go.Ev
open Go.RowKit Go.Proofs
set_option maxRecDepth 100000
set_option maxHeartbeats 8000000
set_option linter.unusedSimpArgs false
set_option linter.unusedVariables false
noncomputable section
def shM (m:Mv):Bool:=decide (m.h.length≤20)&&decide (m.b.length≤40)
def shP (t:Pl):Bool:=decide (t.p.length≤26)&&(decide (t.e.length≤20)&&(decide (t.m.length≤6)&&t.m.all shM))
theorem lp84 (t:Pl) (hl:t.m.length≤6):∀(j k n:Nat),t.m.length=k+j→awN t (n+j+1) (.k8 (k:Int))=some ((t.m.drop k).all shM)
 | 0,k,n,hk=>by
   have c1:decide ((k:Int)<((t.m.length:Nat):Int))=false:=by simp;omega
   rw [List.drop_eq_nil_of_le (by omega)]
   simp only [awM,akj,TS,w6,c1,cond_false,List.all_nil]
 | j+1,k,n,hlk=>by
   have hk:k<t.m.length:=by omega
   obtain⟨m,hm⟩:∃m,t.m[k]? = some m:=⟨t.m[k],List.getElem?_eq_getElem hk⟩
   have ih:=lp84 t hl j (k+1) n (by omega)
   have c1:decide ((k:Int)<((t.m.length:Nat):Int))=true:=by simp;omega
   have c2:inR (k:Int) t.m.length=true:=gP (by omega) (by omega)
   have w4:IntKind.i64.wrap ((k:Int)+1)=((k+1:Nat):Int):=by rw [b7]<;>omega
   have a1:decide ((20:Int)<((m.h.length:Nat):Int))=!decide (m.h.length≤20):=by rw [Bool.eq_iff_iff];simp;omega
   have a2:decide ((40:Int)<((m.b.length:Nat):Int))=!decide (m.b.length≤40):=by rw [Bool.eq_iff_iff];simp;omega
   rw [aO hm,show n+(j+1)+1=(n+j+1)+1 from rfl]
   generalize n+j+1=N at ih ⊢
   simp only [awM,akj,TS,w6,c1,c2,cond_true,Int.toNat_natCast,a7 hm,w4,ih,List.all_cons,shM,a1,a2]
   cases decide (m.h.length≤20)<;>cases decide (m.b.length≤40)<;>rfl
theorem sp84 (t:Pl):Sz84 (t,())=some (shP t):=by
 show Ez84 (t.m.length+64) t=_
 unfold Ez84 Tz84 shP
 simp only [TS,w6]
 have a1:decide ((26:Int)<((t.p.length:Nat):Int))=!decide (t.p.length≤26):=by rw [Bool.eq_iff_iff];simp;omega
 have a2:decide ((20:Int)<((t.e.length:Nat):Int))=!decide (t.e.length≤20):=by rw [Bool.eq_iff_iff];simp;omega
 have a3:decide ((6:Int)<((t.m.length:Nat):Int))=!decide (t.m.length≤6):=by rw [Bool.eq_iff_iff];simp;omega
 rw [a1,a2,a3]
 by_cases h:t.m.length≤6
 · have e:=lp84 t h t.m.length 0 63 (by omega)
   rw [←mB,List.drop_zero]at e
   have e':awN t (t.m.length+64) (.k8 0)=some (t.m.all shM):=e
   rw [e']
   cases decide (t.p.length≤26)<;>cases decide (t.e.length≤20)<;>simp [h]
 · cases decide (t.p.length≤26)<;>cases decide (t.e.length≤20)<;>simp [h]
theorem lp42 (s:List Pl) (u:Int) (hl:s.length≤258):∀(j k n:Nat),s.length=k+j→awQ s u (n+j+1) (.k8 (k:Int))=some ((s.drop k).all shP)
 | 0,k,n,hk=>by
   have c1:decide ((k:Int)<((s.length:Nat):Int))=false:=by simp;omega
   rw [List.drop_eq_nil_of_le (by omega)]
   simp only [awP,akl,TS,w6,c1,cond_false,List.all_nil]
 | j+1,k,n,hlk=>by
   have hk:k<s.length:=by omega
   obtain⟨m,hm⟩:∃m,s[k]? = some m:=⟨s[k],List.getElem?_eq_getElem hk⟩
   have ih:=lp42 s u hl j (k+1) n (by omega)
   have c1:decide ((k:Int)<((s.length:Nat):Int))=true:=by simp;omega
   have c2:inR (k:Int) s.length=true:=gP (by omega) (by omega)
   have w4:IntKind.i64.wrap ((k:Int)+1)=((k+1:Nat):Int):=by rw [b7]<;>omega
   rw [aO hm,show n+(j+1)+1=(n+j+1)+1 from rfl]
   generalize n+j+1=N at ih ⊢
   simp only [awP,akl,TS,w6,c1,c2,cond_true,Int.toNat_natCast,a7 hm,w4,ih,List.all_cons,sp84,obind_some]
   cases shP m<;>rfl
def shL (s:List Pl):Bool:=(decide (s.length≤12)||(decide (256<s.length)&&decide (s.length≤258)))&&s.all shP
theorem s42 (s:List Pl):Sz42 (s,12,())=some (shL s):=by
 show Ez42 (s.length+64) s 12=_
 unfold Ez42 Tz42 shL
 simp only [TS,w6]
 have a1:decide ((12:Int)<((s.length:Nat):Int))=!decide (s.length≤12):=by rw [Bool.eq_iff_iff];simp;omega
 have a2:decide (((s.length:Nat):Int)≤256)=!decide (256<s.length):=by rw [Bool.eq_iff_iff];simp;omega
 have a3:decide ((258:Int)<((s.length:Nat):Int))=!decide (s.length≤258):=by rw [Bool.eq_iff_iff];simp;omega
 rw [a1,a2,a3]
 by_cases h:s.length≤258
 · have e:=lp42 s 12 h s.length 0 63 (by omega)
   rw [List.drop_zero,show 63+s.length+1=s.length+64 by omega]at e
   have e':awQ s 12 (s.length+64) (.k8 0)=some (s.all shP):=e
   rw [e']
   cases decide (s.length≤12)<;>cases decide (256<s.length)<;>simp [h]
 · have h14:decide (s.length≤12)=false:=by simp;omega
   rw [h14]
   cases decide (256<s.length)<;>simp [h]
theorem lpc44 (s:List Pl) (hl:s.length≤300) (hok:∀t∈s,ax0 t=true∧gX t.m=true):∀(j k n:Nat) (x:List Pl),s.length=k+j→x.length=k→bqA s (n+j+1) (.k6 (k:Int) x)=some (x++s.drop k)
 | 0,k,n,x,hk,hx=>by
   have c1:decide ((k:Int)<((s.length:Nat):Int))=false:=by simp;omega
   rw [List.drop_eq_nil_of_le (by omega),List.append_nil]
   simp only [awO,akk,TS,w6,c1,cond_false]
 | j+1,k,n,x,hlk,hx=>by
   have hk:k<s.length:=by omega
   obtain⟨m,hm⟩:∃m,s[k]? = some m:=⟨s[k],List.getElem?_eq_getElem hk⟩
   have ih:=lpc44 s hl hok j (k+1) n (x++[m]) (by omega) (by simp [hx])
   have c1:decide ((k:Int)<((s.length:Nat):Int))=true:=by simp;omega
   have c2:inR (k:Int) s.length=true:=gP (by omega) (by omega)
   have w4:IntKind.i64.wrap ((k:Int)+1)=((k+1:Nat):Int):=by rw [b7]<;>omega
   have c3:Nat.ble (64*(x.length+1)) 1000000=true:=by rw [Nat.ble_eq];omega
   have h33:S33 (m,())=some m:=by unfold S33;rw [if_pos (hok m (List.mem_of_getElem? hm))]
   rw [aO hm,show n+(j+1)+1=(n+j+1)+1 from rfl]
   generalize n+j+1=N at ih ⊢
   simp only [awO,akk,TS,w6,c1,c2,c3,cond_true,Int.toNat_natCast,a7 hm,w4,List.length_map,h33,obind_some]
   rw [ih,List.append_assoc];rfl
theorem s44 (s:List Pl) (hl:s.length≤300) (hok:∀t∈s,ax0 t=true∧gX t.m=true):Sz44 (s,())=some s:=by
 show Ez44 (s.length+64) s=_
 unfold Ez44 Tz44
 simp only [TS,w6]
 have e:=lpc44 s hl hok s.length 0 63 [] (by omega) rfl
 rw [List.drop_zero,List.nil_append,show 63+s.length+1=s.length+64 by omega]at e
 exact e
theorem shP_ok {t:Pl}(h:shP t=true) (hp:aS t.p=true) (he:aS t.e=true):okP t∧ax0 t=true∧gX t.m=true:=by
 simp only [shP,Bool.and_eq_true,decide_eq_true_eq,List.all_eq_true]at h
 obtain⟨h1,h2,h3,h4⟩:=h
 have hb:∀m∈t.m,m.b.length≤40:=fun m hm=>by
  have:=h4 m hm
  simp only [shM,Bool.and_eq_true,decide_eq_true_eq]at this
  exact this.2
 have okp:ax0 t=true:=by
  simp only [ax0,Bool.and_eq_true,decide_eq_true_eq,List.all_eq_true]
  exact⟨by omega,fun m hm=>by have:=hb m hm;omega⟩
 have okc:gX t.m=true:=by
  simp only [gX,Bool.and_eq_true,decide_eq_true_eq,List.all_eq_true]
  exact⟨by omega,fun m hm=>by have:=hb m hm;omega⟩
 exact⟨⟨okp,hp,he,by omega⟩,okp,okc⟩
theorem gOK_of {s:List Pl}(hl:s.length≤300) (h:∀t∈s,okP t):gOK s=true:=by
 simp only [gOK,Bool.and_eq_true,decide_eq_true_eq,List.all_eq_true]
 exact⟨by omega,fun t ht=>⟨(h t ht).1,(h t ht).2.1,(h t ht).2.2.1,(h t ht).2.2.2⟩⟩
def plS (x:St):Int:=pl1 (decide (0<x.b1)) 1+(pl1 (decide (0<x.b2)) 2+pl1 (decide (0<x.b3)) 3)
section
variable {s:St}{t:Pl}
theorem avW (h:aC t.m=0) (g:gH s t) (G:Good s) {i:Int}(hi:i=1∨i=2∨i=3):decide (0<kK s t i)=!(zr s t i==0):=by
 have r:=lV h g hi
 have Z:=azS (zfin h g true).1
 by_cases hz:zr s t i=0
 · rw [if_pos hz]at r;rw [r,hz];rfl
 · rw [if_neg hz]at r
   have e:vF (zr s t i)=[zr s t i-1]:=by unfold vF;rw [show(zr s t i==0)=false by simpa using hz];rfl
   have hm:zr s t i-1∈zB s t:=by
    have ez:zB s t=vF (zr s t 1)++(vF (zr s t 2)++vF (zr s t 3)):=rfl
    rw [ez]
    rcases hi with rfl|rfl|rfl<;>simp [e]
   have:=sl_nz G (Z.all _ (List.mem_append_left _ hm))
   rw [r,show(zr s t i==0)=false by simpa using hz]
   simp;omega
theorem pfin (h:aC t.m=0) (g:gH s t) :
  pl1 (!(zr s t 1==0)) 1+(pl1 (!(zr s t 2==0)) 2+pl1 (!(zr s t 3==0)) 3) =
   pl1 (!(s.b1==0)) 1+(pl1 (!(s.b2==0)) 2+pl1 (!(s.b3==0)) 3)-(t.m.map kQ).sum+(t.m.map uH).sum-4*(t.m.map runM).sum:=by
 have a0:=eI h (f:=0)
 have a1:=eI h (f:=1)
 have a2:=eI h (f:=2)
 have a3:=eI h (f:=3)
 have z:∀f:Int,(f=1∨f=2∨f=3)→bzB s.b1 s.b2 s.b3 f=true→act t.m f=-1:=by
  intro f hf hz
  unfold act
  cases hm:mAt t.m f with
  | none=>rfl
  | some m=>rw [at_nz h g.four hf hm]at hz;cases hz
 have p0:pl s t 0=pT (act t.m 0) true 0:=eJ h 0 true (.inl rfl)
 have p1:pl s t 1=pT (act t.m 1) (s.b1==0) 1:=eJ h 1 _ (.inr rfl)
 have p2:pl s t 2=pT (act t.m 2) (s.b2==0) 2:=eJ h 2 _ (.inr rfl)
 have p3:pl s t 3=pT (act t.m 3) (s.b3==0) 3:=eJ h 3 _ (.inr rfl)
 have ho':awW (pl s t 0) (pl s t 1) (pl s t 2) (pl s t 3)=false:=g.order
 rw [p0,p1,p2,p3]at ho'
 have m0:act t.m 0∈[-1,0,1,2,3,4]:=by simp;omega
 have m1:act t.m 1∈[-1,0,2,3,4]:=by simp;omega
 have m2:act t.m 2∈[-1,0,3,4]:=by simp;omega
 have m3:act t.m 3∈[-1,0,4]:=by simp;omega
 have hb:∀b:Bool,b∈[true,false]:=by decide
 have w:=List.all_eq_true.1 (List.all_eq_true.1 (List.all_eq_true.1 (List.all_eq_true.1 (List.all_eq_true.1 (List.all_eq_true.1 (List.all_eq_true.1 ay1 _ m0) _ m1) _ m2) _ m3) (s.b1==0) (hb _)) (s.b2==0) (hb _)) (s.b3==0) (hb _)
 have y:∀f:Int,(f=1∨f=2∨f=3)→(bzB s.b1 s.b2 s.b3 f&&!(act t.m f==-1))=false:=by
  intro f hf
  cases hq:bzB s.b1 s.b2 s.b3 f with
  | true=>rw [z f hf hq];rfl
  | false=>rfl
 have y1:((s.b1==0)&&!(act t.m 1==-1))=false:=y 1 (by simp)
 have y2:((s.b2==0)&&!(act t.m 2==-1))=false:=y 2 (by simp)
 have y3:((s.b3==0)&&!(act t.m 3==-1))=false:=y 3 (by simp)
 unfold chkP at w
 rw [y1,y2,y3,ho']at w
 simp only [Bool.false_or]at w
 rw [z6 h kQ,z6 h uH,z6 h runM,(bR h 0).1,(bR h 1).1,(bR h 2).1,(bR h 3).1,(bR h 0).2.1,(bR h 1).2.1,(bR h 2).2.1,(bR h 3).2.1,(bR h 0).2.2,(bR h 1).2.2,(bR h 2).2.2,(bR h 3).2.2]
 exact eq_of_beq w
theorem places (h:aC t.m=0) (g:gH s t) (G:Good s):plS (mvd s t)=plS s-(t.m.map kQ).sum+(t.m.map uH).sum-4*(t.m.map runM).sum:=by
 have e1:decide (0<(mvd s t).b1)=!(zr s t 1==0):=avW h g G (i:=1) (by simp)
 have e2:decide (0<(mvd s t).b2)=!(zr s t 2==0):=avW h g G (i:=2) (by simp)
 have e3:decide (0<(mvd s t).b3)=!(zr s t 3==0):=avW h g G (i:=3) (by simp)
 have d:∀b:Int,0≤b→decide (0<b)=!(b==0):=by intro b hb;rw [Bool.eq_iff_iff];simp;omega
 unfold plS
 rw [e1,e2,e3,d _ G.b1.1,d _ G.b2.1,d _ G.b3.1]
 exact pfin h g
end
theorem az6 (g:Mv→Int) (c:Int) (hg:∀m,mvE m=0→-c≤g m∧g m≤c):∀l:List Mv,(∀m∈l,mvE m=0)→-(c*(l.length:Nat))≤(l.map g).sum∧(l.map g).sum≤c*(l.length:Nat)
 | [],_=>by simp
 | m::l,h=>by
   have ih:=az6 g c hg l fun x hx=>h x (List.mem_cons_of_mem _ hx)
   have hm:=hg m (h m List.mem_cons_self)
   simp only [List.map_cons,List.sum_cons,List.length_cons]
   rw [show c*((l.length+1:Nat):Int)=c*((l.length:Nat):Int)+c by rw [Int.natCast_add,Int.mul_add,Int.natCast_one,Int.mul_one]]
   omega
theorem bq8 (m:Mv) (h:mvE m=0):-4≤uH m∧uH m≤4:=by
 have:=fQ h
 unfold uH;split<;>omega
theorem ava (m:Mv) (h:mvE m=0):-4≤kQ m∧kQ m≤4:=by
 have:=fQ h
 unfold kQ;split<;>omega
theorem avG:∀l:List Mv,(l.map runM).sum=(((l.filter rnM).length:Nat):Int)
 | []=>rfl
 | m::l=>by
   have ih:=avG l
   simp only [List.map_cons,List.sum_cons,List.filter_cons,runM]
   rw [ih]
   cases rnM m<;>simp<;>omega
theorem out_len (l:List Mv):(l.filter (·.o)).length=l.countP (·.o):=(List.countP_eq_length_filter).symm
theorem lpf22 (l:List Mv) (hl:l.length≤4):∀(j k n:Nat) (x:List Mv),l.length=k+j→x.length≤k→pW l () (n+j+1) (.k6 (k:Int) x)=some (x++(l.drop k).filter (·.o))
 | 0,k,n,x,hk,hx=>by
   have c1:decide ((k:Int)<((l.length:Nat):Int))=false:=by simp;omega
   rw [List.drop_eq_nil_of_le (by omega)]
   simp only [uN,mP,TS,w6,c1,cond_false,List.filter_nil,List.append_nil]
 | j+1,k,n,x,hlk,hx=>by
   have hk:k<l.length:=by omega
   obtain⟨m,hm⟩:∃m,l[k]? = some m:=⟨l[k],List.getElem?_eq_getElem hk⟩
   have ih1:=lpf22 l hl j (k+1) n (x++[m]) (by omega) (by simp;omega)
   have ih2:=lpf22 l hl j (k+1) n x (by omega) (by omega)
   have c1:decide ((k:Int)<((l.length:Nat):Int))=true:=by simp;omega
   have c2:inR (k:Int) l.length=true:=gP (by omega) (by omega)
   have c3:Nat.ble (64*(x.length+1)) 1000000=true:=by rw [Nat.ble_eq];omega
   have w4:IntKind.i64.wrap ((k:Int)+1)=((k+1:Nat):Int):=by rw [b7]<;>omega
   have q:Sp22 (m,())=some m.o:=rfl
   rw [aO hm,show n+(j+1)+1=(n+j+1)+1 from rfl]
   generalize n+j+1=N at ih1 ih2 ⊢
   simp only [uN,mP,TS,w6,List.length_map,c1,c2,c3,cond_true,Int.toNat_natCast,a7 hm,w4,ih1,ih2,q,obind_some,List.filter_cons]
   cases m.o<;>simp
theorem sf22 (l:List Mv) (hl:l.length≤4):aqv (l,(),())=some (l.filter (·.o)):=by
 have e:=lpf22 l hl l.length 0 1063 [] (by omega) (by simp)
 rw [List.drop_zero,List.nil_append,show 1063+l.length+1=l.length+1064 by omega]at e
 show ajH (l.length+1064) l ()=_
 unfold ajH aqt
 simp only [TS]
 exact e
theorem lpf24 (l:List Mv) (hl:l.length≤4):∀(j k n:Nat) (x:List Mv),l.length=k+j→x.length≤k→pV l () (n+j+1) (.k6 (k:Int) x)=some (x++(l.drop k).filter rnM)
 | 0,k,n,x,hk,hx=>by
   have c1:decide ((k:Int)<((l.length:Nat):Int))=false:=by simp;omega
   rw [List.drop_eq_nil_of_le (by omega)]
   simp only [uM,mO,TS,w6,c1,cond_false,List.filter_nil,List.append_nil]
 | j + 1,k,n,x,hlk,hx=>by
   have hk:k<l.length:=by omega
   obtain⟨m,hm⟩:∃m,l[k]? = some m:=⟨l[k],List.getElem?_eq_getElem hk⟩
   have ih1:=lpf24 l hl j (k+1) n (x++[m]) (by omega) (by simp;omega)
   have ih2:=lpf24 l hl j (k+1) n x (by omega) (by omega)
   have c1:decide ((k:Int)<((l.length:Nat):Int))=true:=by simp;omega
   have c2:inR (k:Int) l.length=true:=gP (by omega) (by omega)
   have c3:Nat.ble (64*(x.length+1)) 1000000=true:=by rw [Nat.ble_eq];omega
   have w4:IntKind.i64.wrap ((k:Int)+1)=((k+1:Nat):Int):=by rw [b7]<;>omega
   have q:Sp24 (m,())=some (rnM m):=by
    show Ep24 m=_
    unfold Ep24 Tp24 rnM
    simp only [TS]
    cases m.o<;>rfl
   rw [aO hm,show n+(j+1)+1=(n+j+1)+1 from rfl]
   generalize n+j+1=N at ih1 ih2 ⊢
   simp only [uM,mO,TS,w6,List.length_map,c1,c2,c3,cond_true,Int.toNat_natCast,a7 hm,w4,ih1,ih2,q,obind_some,List.filter_cons]
   cases rnM m<;>simp
theorem sf24 (l:List Mv) (hl:l.length≤4):aqu (l,(),())=some (l.filter rnM):=by
 have e:=lpf24 l hl l.length 0 1063 [] (by omega) (by simp)
 rw [List.drop_zero,List.nil_append,show 1063+l.length+1=l.length+1064 by omega]at e
 show ajG (l.length+1064) l ()=_
 unfold ajG aqs
 simp only [TS]
 exact e
section
variable {t:Pl}
theorem s142 (ok:ax0 t=true) (hp:aS t.p=true) (he:aS t.e=true) (h:playE t.p t.e t.m=0):azR (t,())=some 0:=by
 unfold azR
 rw [if_pos ⟨ok,hp,he⟩,h]
theorem s6 (e:azR (t,())=some 0) (h:aC t.m=0):Sp6 (t,())=some (((t.m.countP (·.o):Nat):Int),0,()):=by
 show Ep6 t=_
 unfold Ep6 Tp6
 simp only [TS]
 rw [e,obind_some,sf22 t.m (dI h),obind_some,out_len];rfl
theorem s8 (e:azR (t,())=some 0) (h:aC t.m=0):Sp8 (t,())=some ((((t.m.filter rnM).length:Nat):Int),0,()):=by
 show Ep8 t=_
 unfold Ep8 Tp8
 simp only [TS]
 rw [e,obind_some,sf24 t.m (dI h),obind_some];rfl
theorem lpa9 (h:aC t.m=0):∀(j k n:Nat) (a:Int),t.m.length=k+j→-(4*(k:Int))≤a→a≤4*(k:Int)→Ep9J t (n+j+1) (.k12 a (k:Int))=some (a+((t.m.drop k).map uH).sum,0,())
 | 0,k,n,a,hk,h1,h2=>by
   have c1:decide ((k:Int)<((t.m.length:Nat):Int))=false:=by simp;omega
   rw [List.drop_eq_nil_of_le (by omega)]
   simp only [bqg,Tp9J,TS,w6,c1,cond_false,List.map_nil,List.sum_nil,Int.add_zero]
 | j + 1,k,n,a,hlk,h1,h2=>by
   have hl:=dI h
   have hk:k<t.m.length:=by omega
   obtain⟨m,hm⟩:∃m,t.m[k]? = some m:=⟨t.m[k],List.getElem?_eq_getElem hk⟩
   have hv:=sQ h m (List.mem_of_getElem? hm)
   have hr:=fQ hv
   have av:=bq8 m hv
   have ih:=lpa9 h j (k+1) n (a+uH m) (by omega) (by omega) (by omega)
   have c1:decide ((k:Int)<((t.m.length:Nat):Int))=true:=by simp;omega
   have c2:inR (k:Int) t.m.length=true:=gP (by omega) (by omega)
   have w4:IntKind.i64.wrap ((k:Int)+1)=((k+1:Nat):Int):=by rw [b7]<;>omega
   have w5:IntKind.i64.wrap (m.t-m.f)=m.t-m.f:=by rw [b7]<;>omega
   have w7:IntKind.i64.wrap (a+(m.t-m.f))=a+(m.t-m.f):=by rw [b7]<;>omega
   rw [aO hm,show n+(j+1)+1=(n+j+1)+1 from rfl,List.map_cons,List.sum_cons,←Int.add_assoc]
   generalize n+j+1=N at ih ⊢
   simp only [bqg,Tp9J,TS,w6,c1,c2,cond_true,Int.toNat_natCast,a7 hm,w4,w5,w7]
   unfold uH at ih ⊢
   cases ho:m.o with
   | true=>
     simp only [ho,if_true,Int.add_zero]at ih ⊢
     exact ih
   | false=>
     simp only [ho,Bool.false_eq_true,if_false]at ih ⊢
     exact ih
theorem s9 (e:azR (t,())=some 0) (h:aC t.m=0):Sp9 (t,())=some ((t.m.map uH).sum,0,()):=by
 have q:=lpa9 h t.m.length 0 1063 0 (by omega) (by simp) (by simp)
 rw [List.drop_zero,Int.zero_add,show 1063+t.m.length+1=t.m.length+1064 by omega]at q
 show Ep9 (t.m.length+1064) t=_
 unfold Ep9 Tp9
 simp only [TS]
 rw [e,obind_some]
 exact q
end
theorem wt3:IntKind.i64.wrap 3=3:=by decide
theorem wt2:IntKind.i64.wrap 2=2:=by decide
theorem wt4:IntKind.i64.wrap 4=4:=by decide
theorem wt5:IntKind.i64.wrap 5=5:=by decide
theorem wt6:IntKind.i64.wrap 6=6:=by decide
theorem s13 (x:St):Sp13 (x,())=some (plS x):=by
 show Ep13 1064 x=_
 unfold Ep13 Tp13 plS
 simp only [TS]
 show bqB x (1060+4) (.k6 0 0)=_
 generalize 1060=n
 by_cases a:0<x.b1<;>by_cases b:0<x.b2<;>by_cases c:0<x.b3<;>simp [Ep13J_s,ayc,TS,w6,a,b,c,wr0,wr1,wt2,wt3,wt4,wt5,wt6,cond_ite,pl1]
def sts:St→List Pl→List St
 | s,[]=>[s]
 | s,t::l=>s::sts (nxt (mvd s t)) l
def Pth:St→List Pl→Prop
 | _,[]=>True
 | s,t::l=>eE s t=0∧Pth (nxt (mvd s t)) l
theorem aje:∀(l:List Pl) (i:Nat) (A:List St) (s:St),(yD i (A++[s]) s l).2.2.2=0→(yD i (A++[s]) s l).1=A++sts s l∧Pth s l
 | [],i,A,s,h=>⟨rfl,trivial⟩
 | t :: l,i,A,s,h=>by
   rw [nI]at h ⊢
   by_cases he:eE s t=0
   · rw [if_neg (by simp [he])]at h ⊢
     obtain⟨h1,h2⟩:=aje l (i+1) (A++[s]) (nxt (mvd s t)) h
     refine⟨?_,he,h2⟩
     rw [h1,List.append_assoc];rfl
   · rw [if_pos he]at h
     exact absurd h he
theorem m4:∀(l:List Pl) (s:St),(sts s l).length=l.length+1
 | [],s=>rfl
 | t::l,s=>by rw [sts,List.length_cons,m4 l,List.length_cons]
theorem bqP:∀(l:List Pl) (s:St) (k:Nat) (t:Pl),Pth s l→l[k]? = some t→eE ((sts s l).getD k st0) t=0∧(sts s l).getD (k+1) st0=nxt (mvd ((sts s l).getD k st0) t)
 | [],s,k,t,h,ht=>by cases ht
 | u::l,s,0,t,h,ht=>by
   obtain rfl:u=t:=by simpa using ht
   refine⟨h.1,?_⟩
   show(sts (nxt (mvd s u)) l).getD 0 st0=_
   cases l<;>rfl
 | u::l,s,k+1,t,h,ht=>bqP l (nxt (mvd s u)) k t h.2 ht
end
end Go.Ev
