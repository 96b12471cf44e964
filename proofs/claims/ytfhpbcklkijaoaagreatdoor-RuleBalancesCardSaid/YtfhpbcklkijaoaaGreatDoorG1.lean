import Derived.Test.YtfhpbcklkijaoaaGreatDoorEvD
import Derived.Test.YtfhpbcklkijaoaaGreatDoorDQP
import Derived.Test.YtfhpbcklkijaoaaGreatDoorDP2
import Derived.Test.YtfhpbcklkijaoaaGreatDoorDCE
import Derived.Test.YtfhpbcklkijaoaaGreatDoorTypes
set_option linter.unusedSimpArgs false
set_option linter.unusedVariables false
namespace Go.Ev
open Go.RowKit Go.Proofs
set_option maxRecDepth 100000
set_option maxHeartbeats 8000000
set_option linter.unusedSimpArgs false
set_option linter.unusedVariables false
noncomputable section
theorem awo {a:Tn}:zY (a,())=aO (ayv (a,())) fun r=>cond r (some (1:Int)) (aO (awL (a,())) fun r=>cond r (some 2) (aO (awK (a,())) fun r=>cond r (some 3) (aO (awJ (a,())) fun r=>cond r (some 4) (aO (awI (a,())) fun r=>cond r (some 5) (aO (awH (a,())) fun r=>cond r (some 6) (aO (awG (a,())) fun r=>cond r (some 7) (aO (awF (a,())) fun r=>cond r (some 8) (aO (awE (a,())) fun r=>cond r (some 9) (aO (awD (a,())) fun r=>cond r (some 10) (aO (awC (a,())) fun r=>cond r (some 11) (aO (awB (a,())) fun r=>cond r (some 12) (aO (awA (a,())) fun r=>cond r (some 13) (some 0))))))))))))):=by
 show Ez144 (a.p_m.length+64) a=_
 unfold Ez144 Tz144
 simp only [TS,w6]
 have e74:Sz74 ()=Ez74:=rfl
 rw [e74]
 unfold Ez74 Tz74
 simp only [TS,w6]
 rw [obind_some,show a.p_m.length+64=(a.p_m.length+50)+14 from rfl]
 generalize a.p_m.length+50=n
 rw [u144_0 a (n+13),u144_1 a (n+12),u144_2 a (n+11),u144_3 a (n+10),u144_4 a (n+9),u144_5 a (n+8),u144_6 a (n+7),u144_7 a (n+6),u144_8 a (n+5),u144_9 a (n+4),u144_10 a (n+3),u144_11 a (n+2),u144_12 a (n+1),u144_13 a n]
theorem mY {x:Option Bool}{b:Bool}{k:Int}{A:Option Int}{F:Prop}(hx:x=some b) (hk:k≠0) (h:b=false→∃j,A=some j∧(j=0→F)):∃j,(aO x fun r=>cond r (some k) A)=some j∧(j=0→F):=by
 subst hx
 cases b with
 | true=>exact⟨k,rfl,fun h0=>absurd h0 hk⟩
 | false=>exact h rfl
theorem prog_ok {s:St}{t:Pl}(h:aC t.m=0) (hv:vEv t.e) (hb:aV t.p=true) (hl:t.p.length<9223372036854775808):∃k,zY (cN s t,())=some k∧(k=0→fR s t):=by
 rw [awo]
 refine mY (b:=!((jS s t).2.2.1==0)) rfl (by decide) fun g1=>?_
 have g1':(jS s t).2.2.1=0:=by simpa using g1
 have hk:=ak9 g1'
 refine mY (r2_p (s:=cN s t) hv hl hk) (by decide) fun g2=>?_
 refine mY (r3_p (s:=cN s t) h) (by decide) fun g3=>?_
 have g3':(mAt t.m 0).isSome=!decide (t.e=[]):=by
  have g3:((mAt t.m 0).isSome==decide (t.e=[]))=false:=g3
  revert g3
  cases(mAt t.m 0).isSome<;>cases decide (t.e=[])<;>decide
 refine mY (r4_p (s:=cN s t) h) (by decide) fun g4=>?_
 refine mY (r5_p (s:=cN s t) h hv g3') (by decide) fun g5=>?_
 have g5':∀m,mAt t.m 0=some m→batFits t.e m=true:=by
  intro m hm
  have g5:(match mAt t.m 0 with
   | some m=>!batFits t.e m
   | none=>false)=false:=g5
  rw [hm]at g5
  simpa using g5
 refine mY (r6_p (s:=cN s t) h hv) (by decide) fun g6=>?_
 refine mY (r7_p (s:=cN s t) hv) (by decide) fun g7=>?_
 refine mY (r8_p (s:=cN s t) h hv) (by decide) fun g8=>?_
 refine mY (r9_p (s:=cN s t) h) (by decide) fun g9=>?_
 refine mY (r10_p (s:=cN s t) h hv) (by decide) fun g10=>?_
 refine mY (r11_p (s:=cN s t) h) (by decide) fun g11=>?_
 refine mY (b:=decide (3<outsI s t)) r12_p (by decide) fun g12=>?_
 have g12':outsI s t≤3:=by simp at g12;exact g12
 refine mY (r13_p (s:=cN s t) h) (by decide) fun g13=>?_
 exact⟨0,rfl,fun _=>⟨g1',g3',g4,g5',g11,g12',g13,by have g2:(!ajC (askC ((jS s t).1.1,(jS s t).1.2.1) t.p) t.e)=false:=g2;simpa using g2⟩⟩
def brk (s:St) (t:Pl):Int:=(zY (cN s t,())).getD 0
theorem bqc {s:St}{t:Pl}(ok:okP t):(vZ s t=0→zY (cN s t,())=some (brk s t))∧(brk s t=0→vZ s t=0→fR s t):=by
 by_cases hc:vZ s t=0
 · obtain ⟨e1,e2,e3⟩:=rJ hc
   obtain⟨p1,p2,p3⟩:=playE_zero e2
   obtain⟨k,a,c⟩:=prog_ok (s:=s) p3 p2 ok.2.1 (by omega)
   have e:brk s t=k:=by unfold brk;rw [a];rfl
   rw [e]
   exact⟨fun _=>a,fun h _=>c h⟩
 · exact⟨fun h=>absurd h hc,fun _ h=>absurd h hc⟩
end
end Go.Ev
namespace Go.Ev
open Go.RowKit Go.Proofs
set_option maxRecDepth 100000
set_option maxHeartbeats 4000000
set_option linter.unusedVariables false
noncomputable section
def Az22:=Row.nil
def Tz22:Tr St Empty noS (Cod.agg rSt).v:=(.r (⟨1,0,0,0,0,0,0,0,1,1,0,0,false⟩:St))
def Ez22:=(Tz22).d noE
def Sz22 (x:Unit):=Ez22
def wz22:Wk (Unit) St Empty (Cod.agg rSt).v:=wk0 fun x=>Tz22
def Kz22:=aX 14 Tryz.func14 [] noZ ⟨3,noL,noL,noL⟩ 128 Az22 (Cod.agg rSt) Sz22 wz22 (fun _=>0)
def Az42:=(Row.cons (Cod.list pl0 rPl) (Row.cons cI Row.nil))
inductive Lz42 where
 | k8 (x2:Int)
def uz42:Lz42→Nat
 | .k8 _=>8
def sLz42 (s:List (Pl)) (t:Int):Lz42→D
 | .k8 x2=>mD [(0,(Cod.list pl0 rPl).v s),(5,.int .i64 x2)] 0 [] 128 []
noncomputable def akt (s:List (Pl)) (t:Int):(l_:Lz42)→Tr Bool Lz42 (sLz42 s t) cB.v
 | .k8 x2=>(.i (decide (x2<((s.length:Nat):Int))) (.i (inR x2 s.length) (.c Az84 Sz84 ((s.getD x2.toNat pl0),()) fun r4=>(.i (!r4) (.r false) (.g (.k8 (w6 (x2+1)))))) .n) (.r true))
noncomputable def Tz42 (s:List (Pl)) (t:Int):Tr Bool Lz42 (sLz42 s t) cB.v:=(.i (decide (t<((s.length:Nat):Int))) (.i (decide (((s.length:Nat):Int)≤256)) (.r false) (.i (decide (258<((s.length:Nat):Int))) (.r false) (.g (.k8 0)))) (.i (decide (258<((s.length:Nat):Int))) (.r false) (.g (.k8 0))))
def aw1 (s:List (Pl)) (t:Int):=Tr.lp (akt s t)
theorem aw0 {s:List (Pl)}{t:Int}{n:Nat}{l_:Lz42}:aw1 s t (n+1) l_=(akt s t l_).d (aw1 s t n):=rfl
def Ez42 (n:Nat) (s:List (Pl)) (t:Int):=(Tz42 s t).d (aw1 s t n)
def Sz42 (x:(List (Pl))×Int×Unit):=Ez42 (x.1.length+64) x.1 x.2.1
def wz42:Wk ((List (Pl))×Int×Unit) Bool Lz42 cB.v:=⟨fun x=>sLz42 x.1 x.2.1,uz42,fun x=>Tz42 x.1 x.2.1,fun x=>akt x.1 x.2.1⟩
def Kz42:=aX 4 Tryz.func4 [Kz84] noZ ⟨32,(lookA [(4,⟨[0,5],[],0,[],[],[],[]⟩)]),noL,noL⟩ 128 Az42 cB Sz42 wz42 (fun x=>x.1.length+64)
def Az44:=(Row.cons (Cod.list pl0 rPl) Row.nil)
def Wz44 (r:(List (Pl))):V:=.el (r.map rPl.v)
theorem hWz44 (r:(List (Pl))):(Wz44 r).c=((Cod.list pl0 rPl).v r).c:=by
 first|rfl|exact aY|(show EVal.tup (V.cs _)=EVal.tup (V.cs _);simp only [V.cs_map,List.map_cons,List.map_nil,aY];rfl)
inductive Lz44 where
 | k6 (x2:Int) (x3:List (Pl))
def uz44:Lz44→Nat
 | .k6 _ _=>6
def azl (s:List (Pl)) (x2:Int) (x3:List (List V)):D:=mD [(0,(Cod.list pl0 rPl).v s),(3,.gl 128),(4,.int .i64 x2)] 0 [] 129 [(128,(x3,46))]
def awm (s:List (Pl)):Lz44→D
 | .k6 x2 x3=>azl s x2 (x3.map rPl.v)
noncomputable def aks (s:List (Pl)):(l_:Lz44)→Tr (List (Pl)) Lz44 (awm s) Wz44
 | .k6 x2 x3=>(.i (decide (x2<((s.length:Nat):Int))) (.i (inR x2 s.length) (.c A33 S33 ((s.getD x2.toNat pl0),()) fun r5=>(.i (Nat.ble (64*(((x3.map rPl.v)).length+1)) 1000000) (.j (.k6 (w6 (x2+1)) (x3++[r5])) (azl s (w6 (x2+1)) ((x3.map rPl.v)++[(rPl.v r5)])) ⟨by simp only [awm,List.map_append,List.map_cons,List.map_nil]<;>rfl⟩) .n)) .n) (.r x3))
def Tz44 (s:List (Pl)):Tr (List (Pl)) Lz44 (awm s) Wz44:=(.g (.k6 0 []))
def bqI (s:List (Pl)):=Tr.lp (aks s)
theorem awZ {s:List (Pl)}{n:Nat}{l_:Lz44}:bqI s (n+1) l_=(aks s l_).d (bqI s n):=rfl
def Ez44 (n:Nat) (s:List (Pl)):=(Tz44 s).d (bqI s n)
def Sz44 (x:(List (Pl))×Unit):=Ez44 (x.1.length+64) x.1
def wz44:Wk ((List (Pl))×Unit) (List (Pl)) Lz44 Wz44:=⟨fun x=>awm x.1,uz44,fun x=>Tz44 x.1,fun x=>aks x.1⟩
def Kz44:=aX 7 Tryz.func7 [K33] noZ ⟨20,(lookA [(3,⟨[0,3,4],[],0,[(3,46)],[128],[],[]⟩)]),noL,noL⟩ 128 Az44 (Cod.list pl0 rPl) Sz44 wz44 (fun x=>x.1.length+64) hWz44
end
end Go.Ev
namespace Go.Ev
open Go.RowKit Go.Proofs
set_option maxRecDepth 20000
set_option maxHeartbeats 8000000
def bqT (q:Pl):List EVal:=[.str q.p,.str q.e,.bool q.l,.lsl (t9 q.m)]
def kS (l:List Pl):List (List EVal):=l.map bqT
def l7 (l:List St):List (List EVal):=l.map eSt
theorem rowsP_length (l:List Pl):(kS l).length=l.length:=by simp [kS]
theorem rowsP_get (l:List Pl) (i:Nat):(kS l)[i]? = (l[i]?).map bqT:=by simp [kS]
theorem vPls_c (l:List Pl):((Cod.list pl0 rPl).v l).c=.lsl (kS l):=by
 have h1:(V.el (l.map rPl.v)).c=((Cod.list pl0 rPl).v l).c:=aY
 refine h1.symm.trans ?_
 rw [V.c,V.css_map,List.map_map,kS]
 refine congrArg EVal.lsl (List.map_congr_left fun p _=>?_)
 have h:=vPl_c p
 have e:((Cod.agg rPl).v p).c=.agg (V.cs (rPl.v p)):=by show(V.agg (rPl.v p)).c=_;rw [V.c]
 rw [e]at h
 exact EVal.agg.inj h
theorem vSts_c (l:List St):((Cod.list st0 rSt).v l).c=.lsl (l7 l):=by
 have h1:(V.el (l.map rSt.v)).c=((Cod.list st0 rSt).v l).c:=aY
 refine h1.symm.trans ?_
 rw [V.c,V.css_map,List.map_map,l7]
 exact congrArg EVal.lsl (List.map_congr_left fun p _=>aze p)
noncomputable def eE (s:St) (t:Pl):Int:=errA s t (brk s t)
noncomputable def nN (s:St) (t:Pl):Int:=numA s t (brk s t)
noncomputable def eTn (x:Tn):List EVal:=V.cs (rTn.v x)
noncomputable def F85:List EVal→Option EVal:=fOf Az85 (Cod.tup (Row.cons (Cod.opt rTn) (Row.cons cI (Row.cons cI Row.nil)))) Sz85
theorem fn85:FnT 43 F85:=Kz85.ok
noncomputable def F86:List EVal→Option EVal:=fOf Az86 (Cod.agg rSt) Sz86
theorem fn86:FnT 30 F86:=Kz86.ok
noncomputable def F22:List EVal→Option EVal:=fOf Az22 (Cod.agg rSt) Sz22
theorem fn22:FnT 14 F22:=Kz22.ok
def bC:St:=⟨1,0,0,0,0,0,0,0,1,1,0,0,false⟩
theorem e22:F22 []=some (.agg (eSt bC)):=by
 have e:V.cs (Az22.v ())=[]:=by show V.cs []=_;rw [V.cs]
 have h:fOf Az22 (Cod.agg rSt) Sz22 (V.cs (Az22.v ()))=some (.agg (eSt bC)):=by
  unfold fOf
  rw [Az22.rt,Option.bind_some]
  have:Sz22 ()=some bC:=rfl
  rw [this]
  show some ((V.agg (rSt.v bC)).c)=_
  rw [V.c,aze]
 rw [e]at h
 exact h
section
variable {s:St}{t:Pl}
theorem a85:V.cs (Az85.v (s,t,()))=[.agg (eSt s),.agg (bqT t)]:=by
 show V.cs [V.agg (rSt.v s),(Cod.agg rPl).v t]=_
 rw [V.cs,V.cs,V.cs,vPl_c]
 simp only [V.c,aze];rfl
theorem e85 (ok:okP t):F85 [.agg (eSt s),.agg (bqT t)]=some (((Cod.tup (Row.cons (Cod.opt rTn) (Row.cons cI (Row.cons cI Row.nil)))).v (accR s t (brk s t))).c):=by
 rw [←a85]
 unfold F85 fOf
 rw [Az85.rt,Option.bind_some,s85 ok (bqc ok).1];rfl
theorem akM (ok:okP t) (h:eE s t≠0):F85 [.agg (eSt s),.agg (bqT t)]=some (.tup [.nilp,.int .i64 (nN s t),.int .i64 (eE s t)]):=by
 rw [e85 ok]
 rcases acc_cases s t (brk s t)with⟨_,h2⟩ | ⟨h1,_⟩
 · rw [h2]
   show some ((V.tup [V.raw .nilp,V.int .i64 (nN s t),V.int .i64 (eE s t)]).c)=_
   simp only [V.c,V.cs]
 · exact absurd h1 h
theorem ajr (ok:okP t) (h:eE s t=0):F85 [.agg (eSt s),.agg (bqT t)]=some (.tup [.lptr (eTn (cN s t)) 0,.int .i64 0,.int .i64 0]):=by
 rw [e85 ok]
 rcases acc_cases s t (brk s t)with⟨h1,_⟩ | ⟨_,_,_,h2⟩
 · exact absurd h h1
 · rw [h2]
   show some ((V.tup [V.lptr (rTn.v (cN s t)) 0,V.int .i64 0,V.int .i64 0]).c)=_
   simp only [V.c,V.cs,eTn]
structure Acc (s:St) (t:Pl):Prop where
 st:stE s=0
 pl:playE t.p t.e t.m=0
 on:s.over=false
 mv:aC t.m=0
 ev:vEv t.e
 len:t.p.length≤24
 good:fR s t
 big:bqd s t=false
theorem axO (ok:okP t) (h:eE s t=0):Acc s t:=by
 rcases acc_cases s t (brk s t)with⟨h1,_⟩ | ⟨h1,h2,h3,_⟩
 · exact absurd h h1
 · obtain ⟨e1,e2,e3⟩:=rJ h2
   obtain⟨p1,p2,p3⟩:=playE_zero e2
   refine⟨e1,e2,e3,p3,p2,p1,(bqc ok).2 h3 h2,?_⟩
   unfold errA at h1
   cases hx:bqd s t with
   | false=>rfl
   | true=>simp [h2,h3,hx]at h1
theorem e86 (ok:okP t) (h:eE s t=0):F86 [.lptr (eTn (cN s t)) 0]=some (.agg (eSt (nxt (mvd s t)))):=by
 have A:=axO ok h
 have e:V.cs (Az86.v (cN s t,()))=[.lptr (eTn (cN s t)) 0]:=by
  show V.cs [V.lptr (rTn.v (cN s t)) 0]=_
  simp only [V.cs,V.c,eTn]
 rw [←e]
 unfold F86 fOf
 rw [Az86.rt,Option.bind_some,s86 A.mv (aqb A.st).half A.good]
 show some ((V.agg (rSt.v _)).c)=_
 rw [V.c,aze]
theorem axP (A:Acc s t):stE (nxt (mvd s t))=0:=by
 have n:Num s:=m8.1 ⟨(j7 A.st).1,(j7 A.st).2.1,(j7 A.st).2.2.1⟩
 have F:awa s:=uY.1 (j7 A.st).2.2.2.2
 exact nxt_ok (avc A.mv A.good n A.big) A.on (fit_mvd A.mv A.good n.good F)
end
abbrev GameR:=List St×Nat×Int×Int
noncomputable def rC:Nat→List St→St→List Pl→GameR
 | _,acc,_,[]=>(acc,0,0,0)
 | i,acc,s,t::L=>if eE s t≠0 then([],i,nN s t,eE s t)else rC (i+1) (acc++[nxt (mvd s t)]) (nxt (mvd s t)) L
theorem gM {i:Nat}{acc:List St}{s:St}{t:Pl}{L:List Pl}:rC i acc s (t::L)=if eE s t≠0 then([],i,nN s t,eE s t)else rC (i+1) (acc++[nxt (mvd s t)]) (nxt (mvd s t)) L:=rfl
noncomputable def game (L:List Pl):GameR:=if 256<L.length then([],0,0,5)else rC 0 [bC] bC L
theorem aj0:stE bC=0:=by decide +kernel
end Go.Ev
