import Derived.Test.YtembhfobljiaoaaGreatDoorEvD
import Derived.Test.YtembhfobljiaoaaGreatDoorBase
import Derived.Test.YtembhfobljiaoaaGreatDoorDQP
import Derived.Test.YtembhfobljiaoaaGreatDoorDP2
set_option linter.unusedSimpArgs false
set_option linter.unusedVariables false
namespace Go.Ev
open Go.RowKit Go.Proofs
noncomputable def dTI:TypeInfo:={ desc:=.bool,str := "",size:=0,bytes:=0,hasPointers:=false,align:=0,fieldAlign:=0,zero:=none,comparable:=false,methods:=#[] }
theorem sz3:aN Tryz.prog 3=some 1:=by kernel_rfl
noncomputable def I3:TypeInfo:=(Tryz.prog.info? 3).getD dTI
theorem info3:Tryz.prog.info? 3=some I3:=by kernel_rfl
theorem I3s:I3.size=1:=by kernel_rfl
theorem I3b:I3.bytes=8:=by kernel_rfl
theorem zero3:dO Tryz.prog 3=some [.int .i64 0]:=by kernel_rfl
theorem grow3 {need:Nat}:aW Tryz.prog 3 1 8 need=decide (8*need≤1000000):=dV zero3 rfl (by decide)
theorem sz4:aN Tryz.prog 4=some 1:=by kernel_rfl
noncomputable def I4:TypeInfo:=(Tryz.prog.info? 4).getD dTI
theorem info4:Tryz.prog.info? 4=some I4:=by kernel_rfl
theorem I4s:I4.size=1:=by kernel_rfl
theorem I4b:I4.bytes=1:=by kernel_rfl
theorem zero4:dO Tryz.prog 4=some [.bool false]:=by kernel_rfl
theorem grow4 {need:Nat}:aW Tryz.prog 4 1 1 need=decide (1*need≤1000000):=dV zero4 rfl (by decide)
theorem sz9:aN Tryz.prog 9=some 1:=by kernel_rfl
noncomputable def I9:TypeInfo:=(Tryz.prog.info? 9).getD dTI
theorem info9:Tryz.prog.info? 9=some I9:=by kernel_rfl
theorem I9s:I9.size=1:=by kernel_rfl
theorem I9b:I9.bytes=16:=by kernel_rfl
theorem zero9:dO Tryz.prog 9=some [.str []]:=by kernel_rfl
theorem grow9 {need:Nat}:aW Tryz.prog 9 1 16 need=decide (16*need≤1000000):=dV zero9 rfl (by decide)
theorem sz22:aN Tryz.prog 22=some 3:=by kernel_rfl
noncomputable def I22:TypeInfo:=(Tryz.prog.info? 22).getD dTI
theorem info22:Tryz.prog.info? 22=some I22:=by kernel_rfl
theorem I22s:I22.size=3:=by kernel_rfl
theorem I22b:I22.bytes=24:=by kernel_rfl
theorem zero22:dO Tryz.prog 22=some [.int .i64 0,.int .i64 0,.int .i64 0]:=by kernel_rfl
theorem grow22 {need:Nat}:aW Tryz.prog 22 3 24 need=decide (24*need≤1000000):=dV zero22 rfl (by decide)
theorem sz23:aN Tryz.prog 23=some 2:=by kernel_rfl
noncomputable def I23:TypeInfo:=(Tryz.prog.info? 23).getD dTI
theorem info23:Tryz.prog.info? 23=some I23:=by kernel_rfl
theorem I23s:I23.size=2:=by kernel_rfl
theorem I23b:I23.bytes=16:=by kernel_rfl
theorem zero23:dO Tryz.prog 23=some [.int .i64 0,.int .i64 0]:=by kernel_rfl
theorem grow23 {need:Nat}:aW Tryz.prog 23 2 16 need=decide (16*need≤1000000):=dV zero23 rfl (by decide)
theorem sz25:aN Tryz.prog 25=some 13:=by kernel_rfl
noncomputable def I25:TypeInfo:=(Tryz.prog.info? 25).getD dTI
theorem info25:Tryz.prog.info? 25=some I25:=by kernel_rfl
theorem I25s:I25.size=13:=by kernel_rfl
theorem I25b:I25.bytes=104:=by kernel_rfl
theorem zero25:dO Tryz.prog 25=some [.int .i64 0,.int .i64 0,.int .i64 0,.int .i64 0,.int .i64 0,.int .i64 0,.int .i64 0,.int .i64 0,.int .i64 0,.int .i64 0,.int .i64 0,.int .i64 0,.bool false]:=by kernel_rfl
theorem grow25 {need:Nat}:aW Tryz.prog 25 13 104 need=decide (104*need≤1000000):=dV zero25 rfl (by decide)
theorem fok25:fL Tryz.prog #[{ name := "Inning",type:=3,offset:=0,embedded:=false,tag := "",pkgPath := "",byteOffset:=0 },{ name := "Half",type:=3,offset:=1,embedded:=false,tag := "",pkgPath := "",byteOffset:=8 },{ name := "Outs",type:=3,offset:=2,embedded:=false,tag := "",pkgPath := "",byteOffset:=16 },{ name := "Balls",type:=3,offset:=3,embedded:=false,tag := "",pkgPath := "",byteOffset:=24 },{ name := "Strikes",type:=3,offset:=4,embedded:=false,tag := "",pkgPath := "",byteOffset:=32 },{ name := "Bases",type:=22,offset:=5,embedded:=false,tag := "",pkgPath := "",byteOffset:=40 },{ name := "Next",type:=23,offset:=8,embedded:=false,tag := "",pkgPath := "",byteOffset:=64 },{ name := "Score",type:=23,offset:=10,embedded:=false,tag := "",pkgPath := "",byteOffset:=80 },{ name := "Over",type:=4,offset:=12,embedded:=false,tag := "",pkgPath := "",byteOffset:=96 }]=true:=by kernel_rfl
theorem sz28:aN Tryz.prog 28=some 13:=by kernel_rfl
noncomputable def I28:TypeInfo:=(Tryz.prog.info? 28).getD dTI
theorem info28:Tryz.prog.info? 28=some I28:=by kernel_rfl
theorem I28s:I28.size=13:=by kernel_rfl
theorem I28b:I28.bytes=104:=by kernel_rfl
theorem zero28:dO Tryz.prog 28=some [.int .i64 0,.int .i64 0,.int .i64 0,.int .i64 0,.int .i64 0,.int .i64 0,.int .i64 0,.int .i64 0,.int .i64 0,.int .i64 0,.int .i64 0,.int .i64 0,.bool false]:=by kernel_rfl
theorem grow28 {need:Nat}:aW Tryz.prog 28 13 104 need=decide (104*need≤1000000):=dV zero28 rfl (by decide)
theorem fok28:fL Tryz.prog #[{ name := "Inning",type:=3,offset:=0,embedded:=false,tag := "",pkgPath := "",byteOffset:=0 },{ name := "Half",type:=3,offset:=1,embedded:=false,tag := "",pkgPath := "",byteOffset:=8 },{ name := "Outs",type:=3,offset:=2,embedded:=false,tag := "",pkgPath := "",byteOffset:=16 },{ name := "Balls",type:=3,offset:=3,embedded:=false,tag := "",pkgPath := "",byteOffset:=24 },{ name := "Strikes",type:=3,offset:=4,embedded:=false,tag := "",pkgPath := "",byteOffset:=32 },{ name := "Bases",type:=22,offset:=5,embedded:=false,tag := "",pkgPath := "",byteOffset:=40 },{ name := "Next",type:=23,offset:=8,embedded:=false,tag := "",pkgPath := "",byteOffset:=64 },{ name := "Score",type:=23,offset:=10,embedded:=false,tag := "",pkgPath := "",byteOffset:=80 },{ name := "Over",type:=4,offset:=12,embedded:=false,tag := "",pkgPath := "",byteOffset:=96 }]=true:=by kernel_rfl
theorem sz29:aN Tryz.prog 29=some 4:=by kernel_rfl
noncomputable def I29:TypeInfo:=(Tryz.prog.info? 29).getD dTI
theorem info29:Tryz.prog.info? 29=some I29:=by kernel_rfl
theorem I29s:I29.size=4:=by kernel_rfl
theorem I29b:I29.bytes=4:=by kernel_rfl
theorem zero29:dO Tryz.prog 29=some [.bool false,.bool false,.bool false,.bool false]:=by kernel_rfl
theorem grow29 {need:Nat}:aW Tryz.prog 29 4 4 need=decide (4*need≤1000000):=dV zero29 rfl (by decide)
theorem sz30:aN Tryz.prog 30=some 1:=by kernel_rfl
noncomputable def I30:TypeInfo:=(Tryz.prog.info? 30).getD dTI
theorem info30:Tryz.prog.info? 30=some I30:=by kernel_rfl
theorem I30s:I30.size=1:=by kernel_rfl
theorem I30b:I30.bytes=8:=by kernel_rfl
theorem zero30:dO Tryz.prog 30=some [.int .i64 0]:=by kernel_rfl
theorem grow30 {need:Nat}:aW Tryz.prog 30 1 8 need=decide (8*need≤1000000):=dV zero30 rfl (by decide)
theorem sz33:aN Tryz.prog 33=some 1:=by kernel_rfl
noncomputable def I33:TypeInfo:=(Tryz.prog.info? 33).getD dTI
theorem info33:Tryz.prog.info? 33=some I33:=by kernel_rfl
theorem I33s:I33.size=1:=by kernel_rfl
theorem I33b:I33.bytes=24:=by kernel_rfl
theorem zero33:dO Tryz.prog 33=some [.nilslice]:=by kernel_rfl
theorem grow33 {need:Nat}:aW Tryz.prog 33 1 24 need=decide (24*need≤1000000):=dV zero33 rfl (by decide)
theorem sz35:aN Tryz.prog 35=some 4:=by kernel_rfl
noncomputable def I35:TypeInfo:=(Tryz.prog.info? 35).getD dTI
theorem info35:Tryz.prog.info? 35=some I35:=by kernel_rfl
theorem I35s:I35.size=4:=by kernel_rfl
theorem I35b:I35.bytes=64:=by kernel_rfl
theorem zero35:dO Tryz.prog 35=some [.str [],.str [],.bool false,.nilslice]:=by kernel_rfl
theorem grow35 {need:Nat}:aW Tryz.prog 35 4 64 need=decide (64*need≤1000000):=dV zero35 rfl (by decide)
theorem fok35:fL Tryz.prog #[{ name := "Pitches",type:=9,offset:=0,embedded:=false,tag := "",pkgPath := "",byteOffset:=0 },{ name := "Event",type:=9,offset:=1,embedded:=false,tag := "",pkgPath := "",byteOffset:=16 },{ name := "Late",type:=4,offset:=2,embedded:=false,tag := "",pkgPath := "",byteOffset:=32 },{ name := "Moves",type:=33,offset:=3,embedded:=false,tag := "",pkgPath := "",byteOffset:=40 }]=true:=by kernel_rfl
theorem sz36:aN Tryz.prog 36=some 1:=by kernel_rfl
noncomputable def I36:TypeInfo:=(Tryz.prog.info? 36).getD dTI
theorem info36:Tryz.prog.info? 36=some I36:=by kernel_rfl
theorem I36s:I36.size=1:=by kernel_rfl
theorem I36b:I36.bytes=24:=by kernel_rfl
theorem zero36:dO Tryz.prog 36=some [.nilslice]:=by kernel_rfl
theorem grow36 {need:Nat}:aW Tryz.prog 36 1 24 need=decide (24*need≤1000000):=dV zero36 rfl (by decide)
theorem sz38:aN Tryz.prog 38=some 5:=by kernel_rfl
noncomputable def I38:TypeInfo:=(Tryz.prog.info? 38).getD dTI
theorem info38:Tryz.prog.info? 38=some I38:=by kernel_rfl
theorem I38s:I38.size=5:=by kernel_rfl
theorem I38b:I38.bytes=64:=by kernel_rfl
theorem zero38:dO Tryz.prog 38=some [.int .i64 0,.int .i64 0,.bool false,.str [],.nilslice]:=by kernel_rfl
theorem grow38 {need:Nat}:aW Tryz.prog 38 5 64 need=decide (64*need≤1000000):=dV zero38 rfl (by decide)
theorem fok38:fL Tryz.prog #[{ name := "From",type:=3,offset:=0,embedded:=false,tag := "",pkgPath := "",byteOffset:=0 },{ name := "To",type:=3,offset:=1,embedded:=false,tag := "",pkgPath := "",byteOffset:=8 },{ name := "Out",type:=4,offset:=2,embedded:=false,tag := "",pkgPath := "",byteOffset:=16 },{ name := "How",type:=9,offset:=3,embedded:=false,tag := "",pkgPath := "",byteOffset:=24 },{ name := "By",type:=36,offset:=4,embedded:=false,tag := "",pkgPath := "",byteOffset:=40 }]=true:=by kernel_rfl
theorem body4:Tryz.f4.body.isNone=false:=by kernel_rfl
theorem call4 {h:H}{args:List EVal}:dS Tryz.prog h 4 args=some (.enter 4 args h):=j1 Tryz.func4 body4
theorem body5:Tryz.f5.body.isNone=false:=by kernel_rfl
theorem call5 {h:H}{args:List EVal}:dS Tryz.prog h 5 args=some (.enter 5 args h):=j1 Tryz.func5 body5
theorem body6:Tryz.f6.body.isNone=false:=by kernel_rfl
theorem call6 {h:H}{args:List EVal}:dS Tryz.prog h 6 args=some (.enter 6 args h):=j1 Tryz.func6 body6
theorem body7:Tryz.f7.body.isNone=false:=by kernel_rfl
theorem call7 {h:H}{args:List EVal}:dS Tryz.prog h 7 args=some (.enter 7 args h):=j1 Tryz.func7 body7
theorem body8:Tryz.f8.body.isNone=false:=by kernel_rfl
theorem call8 {h:H}{args:List EVal}:dS Tryz.prog h 8 args=some (.enter 8 args h):=j1 Tryz.func8 body8
theorem body9:Tryz.f9.body.isNone=false:=by kernel_rfl
theorem call9 {h:H}{args:List EVal}:dS Tryz.prog h 9 args=some (.enter 9 args h):=j1 Tryz.func9 body9
end Go.Ev
namespace Go.Ev
open Go.RowKit Go.Proofs
set_option maxRecDepth 100000
set_option maxHeartbeats 8000000
set_option linter.unusedSimpArgs false
set_option linter.unusedVariables false
noncomputable section
theorem aqq {a:Tn}:rU (a,())=aV (axj (a,())) fun r=>cond r (some (1:Int)) (aV (axi (a,())) fun r=>cond r (some 2) (aV (axh (a,())) fun r=>cond r (some 3) (aV (axg (a,())) fun r=>cond r (some 4) (aV (axf (a,())) fun r=>cond r (some 5) (aV (axe (a,())) fun r=>cond r (some 6) (aV (axd (a,())) fun r=>cond r (some 7) (aV (axc (a,())) fun r=>cond r (some 8) (aV (axb (a,())) fun r=>cond r (some 9) (aV (axa (a,())) fun r=>cond r (some 10) (aV (ax9 (a,())) fun r=>cond r (some 11) (aV (ax8 (a,())) fun r=>cond r (some 12) (aV (ax7 (a,())) fun r=>cond r (some 13) (some 0))))))))))))):=by
 show Ez144 (a.p_m.length+64) a=_
 unfold Ez144 Tz144
 simp only [TS,w6]
 have e74:Sz74 ()=Ez74:=rfl
 rw [e74]
 unfold Ez74 Tz74
 simp only [TS,w6]
 rw [obind_some,show a.p_m.length+64=(a.p_m.length+50)+14 from rfl]
 generalize a.p_m.length+50=n
 rw [u144_0 a (n+13),u144_1 a (n+12),u144_2 a (n+11),u144_3 a (n+10),u144_4 a (n+9),u144_5 a (n+8),u144_6 a (n+7),u144_7 a (n+6),u144_8 a (n+5),u144_9 a (n+4),u144_10 a (n+3),u144_11 a (n+2),u144_12 a (n+1),u144_13 a n]
theorem mK {x:Option Bool}{b:Bool}{k:Int}{A:Option Int}{F:Prop}(hx:x=some b) (hk:k≠0) (h:b=false→∃j,A=some j∧(j=0→F)):∃j,(aV x fun r=>cond r (some k) A)=some j∧(j=0→F):=by
 subst hx
 cases b with
 | true=>exact⟨k,rfl,fun h0=>absurd h0 hk⟩
 | false=>exact h rfl
theorem prog_ok {s:St}{t:Pl}(h:aT t.m=0) (hv:vEv t.e) (hb:dT t.p=true) (hl:t.p.length<9223372036854775808):∃k,rU (bV s t,())=some k∧(k=0→akW s t):=by
 rw [aqq]
 refine mK (b:=!((oL s t).2.2.1==0)) rfl (by decide) fun g1=>?_
 have g1':(oL s t).2.2.1=0:=by simpa using g1
 have hk:=cntR_ok g1'
 refine mK (r2_p (s:=bV s t) hv hl hk) (by decide) fun g2=>?_
 refine mK (r3_p (s:=bV s t) h) (by decide) fun g3=>?_
 have g3':(mAt t.m 0).isSome=!decide (t.e=[]):=by
  have g3:((mAt t.m 0).isSome==decide (t.e=[]))=false:=g3
  revert g3
  cases(mAt t.m 0).isSome<;>cases decide (t.e=[])<;>decide
 refine mK (r4_p (s:=bV s t) h) (by decide) fun g4=>?_
 refine mK (r5_p (s:=bV s t) h hv g3') (by decide) fun g5=>?_
 have g5':∀m,mAt t.m 0=some m→batFits t.e m=true:=by
  intro m hm
  have g5:(match mAt t.m 0 with
   | some m=>!batFits t.e m
   | none=>false)=false:=g5
  rw [hm]at g5
  simpa using g5
 refine mK (r6_p (s:=bV s t) h hv) (by decide) fun g6=>?_
 refine mK (r7_p (s:=bV s t) hv) (by decide) fun g7=>?_
 refine mK (r8_p (s:=bV s t) h hv) (by decide) fun g8=>?_
 refine mK (r9_p (s:=bV s t) h) (by decide) fun g9=>?_
 refine mK (r10_p (s:=bV s t) h hv) (by decide) fun g10=>?_
 refine mK (r11_p (s:=bV s t) h) (by decide) fun g11=>?_
 refine mK (b:=decide (3<outsI s t)) r12_p (by decide) fun g12=>?_
 have g12':outsI s t≤3:=by simp at g12;exact g12
 refine mK (r13_p (s:=bV s t) h) (by decide) fun g13=>?_
 exact⟨0,rfl,fun _=>⟨g1',g3',g4,g5',g11,g12',g13,by have g2:(!ax4 (askC ((oL s t).1.1,(oL s t).1.2.1) t.p) t.e)=false:=g2;simpa using g2⟩⟩
def brk (s:St) (t:Pl):Int:=(rU (bV s t,())).getD 0
theorem avz {s:St}{t:Pl}(ok:okP t):(o9 s t=0→rU (bV s t,())=some (brk s t))∧(brk s t=0→o9 s t=0→akW s t):=by
 by_cases hc:o9 s t=0
 · obtain ⟨e1,e2,e3⟩:=lU hc
   obtain⟨p1,p2,p3⟩:=playE_zero e2
   obtain⟨k,a,c⟩:=prog_ok (s:=s) p3 p2 ok.2.1 (by omega)
   have e:brk s t=k:=by unfold brk;rw [a];rfl
   rw [e]
   exact⟨fun _=>a,fun h _=>c h⟩
 · exact⟨fun h=>absurd h hc,fun _ h=>absurd h hc⟩
end
end Go.Ev
namespace Go.Ev
open Go.RowKit Go.Proofs
set_option maxRecDepth 100000
set_option maxHeartbeats 4000000
set_option linter.unusedVariables false
noncomputable section
def sA:=(Row.cons (Cod.agg rSt) (Row.cons (Cod.lit (Els.cons (Row.cons (Cod.fn0 19) Row.nil) (Els.cons (Row.cons (Cod.fn0 28) Row.nil) Els.nil))) Row.nil))
inductive cR where
 | k4 (x2:Int)
def zG:cR→Nat
 | .k4 _=>4
def iO (s:St) (t:((Unit)×Unit)×((Unit)×Unit)×Unit):cR→D
 | .k4 x2=>mD [(2,.ptr 0 0),(8,.el [[.raw (.func 19 [])],[.raw (.func 28 [])]]),(9,.int .i64 2),(10,.int .i64 x2)] 1 [(0,.row ⟨(rSt.v s),28,false⟩)] 128 []
noncomputable def fO (s:St) (t:((Unit)×Unit)×((Unit)×Unit)×Unit):(l_:cR)→Tr Int cR (iO s t) cI.v
 | .k4 x2=>(.i (decide (x2<2)) (.i (x2==0) (.c A18 S18 (s,()) fun r6=>(.i (!(r6==0)) (.r r6) (.g (.k4 (w6 (x2+1)))))) (.i (x2==1) (.c Az61 Sz61 (s,()) fun r5=>(.i (!(r5==0)) (.r r5) (.g (.k4 (w6 (x2+1)))))) .n)) (.r 0))
def kV (s:St) (t:((Unit)×Unit)×((Unit)×Unit)×Unit):Tr Int cR (iO s t) cI.v:=(.g (.k4 0))
def jE (s:St) (t:((Unit)×Unit)×((Unit)×Unit)×Unit):=Tr.lp (fO s t)
theorem sR {s:St}{t:((Unit)×Unit)×((Unit)×Unit)×Unit}{n:Nat}{l_:cR}:jE s t (n+1) l_=(fO s t l_).d (jE s t n):=rfl
def kY (n:Nat) (s:St) (t:((Unit)×Unit)×((Unit)×Unit)×Unit):=(kV s t).d (jE s t n)
def kW (x:St×(((Unit)×Unit)×((Unit)×Unit)×Unit)×Unit):=kY 64 x.1 x.2.1
def y8:Wk (St×(((Unit)×Unit)×((Unit)×Unit)×Unit)×Unit) Int cR cI.v:=⟨fun x=>iO x.1 x.2.1,zG,fun x=>kV x.1 x.2.1,fun x=>fO x.1 x.2.1⟩
def aqc:=aY 27 Tryz.func27 [K18,Kz61] noZ ⟨21,(lookA [(2,⟨[2,8,9,10],[0],1,[],[],[],[]⟩)]),noL,noL⟩ 128 sA cI kW y8 (fun x=>64)
def Az16:=(Row.cons (Cod.agg rSt) Row.nil)
noncomputable def Tz16 (s:St):Tr (((Bool)×(Bool)×(Bool)×(Bool)×Unit)×(Int)×Unit) Empty noS (Cod.tup (Row.cons (Cod.agg (Row.cons cB (Row.cons cB (Row.cons cB (Row.cons cB Row.nil))))) (Row.cons cI Row.nil))).v:=(.c sA kW (s,(((),()),((),()),()),()) fun r3=>(.i (!(r3==0)) (.r ((false,false,false,false,()),r3,())) (.c Az63 Sz63 (s,()) fun r4=>(.r ((r4.1,r4.2.1,r4.2.2.1,r4.2.2.2.1,()),0,())))))
def Ez16 (s:St):=(Tz16 s).d noE
def Sz16 (x:St×Unit):=Ez16 x.1
def wz16:Wk (St×Unit) (((Bool)×(Bool)×(Bool)×(Bool)×Unit)×(Int)×Unit) Empty (Cod.tup (Row.cons (Cod.agg (Row.cons cB (Row.cons cB (Row.cons cB (Row.cons cB Row.nil))))) (Row.cons cI Row.nil))).v:=wk0 fun x=>Tz16 x.1
def Kz16:=aY 6 Tryz.func6 [aqc,Kz63] noZ ⟨14,noL,noL,noL⟩ 128 Az16 (Cod.tup (Row.cons (Cod.agg (Row.cons cB (Row.cons cB (Row.cons cB (Row.cons cB Row.nil))))) (Row.cons cI Row.nil))) Sz16 wz16 (fun _=>0)
end
end Go.Ev
namespace Go.Ev
open Go.RowKit Go.Proofs
set_option maxRecDepth 100000
set_option maxHeartbeats 8000000
set_option linter.unusedSimpArgs false
noncomputable section
theorem aqn {s:St}(h:stE s=0):ak4 s=0∧oJ s=0∧ajw s=0∧av5 s=0∧ak2 s=0:=by
 unfold stE ajn at h
 simp only [iZ]at h
 by_cases h1:ak4 s=0
 · rw [if_pos h1]at h
   by_cases h2:oJ s=0
   · rw [if_pos h2]at h
     by_cases h3:ajw s=0
     · rw [if_pos h3]at h
       by_cases h4:av5 s=0
       · rw [if_pos h4]at h
         by_cases h5:ak2 s=0
         · exact⟨h1,h2,h3,h4,h5⟩
         · rw [if_neg h5]at h;exact absurd h h5
       · rw [if_neg h4]at h;exact absurd h h4
     · rw [if_neg h3]at h;exact absurd h h3
   · rw [if_neg h2]at h;exact absurd h h2
 · rw [if_neg h1]at h;exact absurd h h1
section
variable {s:St}{t:Pl}
end
end
end Go.Ev
namespace Go.Ev
open Go.RowKit Go.Proofs
set_option maxRecDepth 20000
set_option maxHeartbeats 8000000
def ajt (q:Pl):List EVal:=[.str q.p,.str q.e,.bool q.l,.lsl (aH q.m)]
noncomputable def eE (s:St) (t:Pl):Int:=wB s t (brk s t)
noncomputable def nN (s:St) (t:Pl):Int:=numA s t (brk s t)
section
variable {s:St}{t:Pl}
theorem a85:V.cs (Az85.v (s,t,()))=[.agg (eSt s),.agg (ajt t)]:=by
 show V.cs [V.agg (rSt.v s),(Cod.agg rPl).v t]=_
 rw [V.cs,V.cs,V.cs,vPl_c]
 simp only [V.c,akc];rfl
end
end Go.Ev
namespace Go.Ev
open Go.RowKit Go.Proofs
set_option maxRecDepth 100000
set_option maxHeartbeats 8000000
set_option linter.unusedSimpArgs false
set_option linter.unusedVariables false
noncomputable section
def mvG (g1 g2 g3:Bool):List Mv:=(if g3=true then [⟨3,4,false,[97],[]⟩]else [])++((if g2=true then [⟨2,3,false,[97],[]⟩]else [])++((if g1=true then [⟨1,2,false,[97],[]⟩]else [])++[⟨0,1,false,[97],[]⟩]))
def wkP (g1 g2 g3:Bool):Pl:=⟨[66,66,66,66],[87],false,mvG g1 g2 g3⟩
theorem zC (g1 g2 g3:Bool):okP (wkP g1 g2 g3)∧rD (wkP g1 g2 g3).m=true∧playE (wkP g1 g2 g3).p (wkP g1 g2 g3).e (wkP g1 g2 g3).m=0∧aT (wkP g1 g2 g3).m=0:=by
 cases g1<;>cases g2<;>cases g3<;>exact⟨⟨by decide,by decide,by decide,by decide⟩,by decide,by decide,by decide⟩
theorem wk_ev:vEv [87]:=.inr ⟨87,by simp,rfl⟩
section
variable {s:St}{g1 g2 g3:Bool}
theorem wk_cnt (hb:s.balls=0) (hk:0≤s.strikes∧s.strikes≤2):oL s (wkP g1 g2 g3)=((4,s.strikes,()),0,0,()):=by
 unfold oL
 show axW s.balls s.strikes [66,66,66,66]=_
 rw [hb]
 have:s.strikes=0∨s.strikes=1∨s.strikes=2:=by omega
 rcases this with h|h|h<;>rw [h]<;>rfl
theorem zB (ho:0≤s.outs∧s.outs≤2):outsI s (wkP g1 g2 g3)=s.outs:=by
 unfold outsI
 have:(wkP g1 g2 g3).m.countP (·.o)=0:=by cases g1<;>cases g2<;>cases g3<;>rfl
 rw [this,dP]<;>simp<;>omega
theorem wk_brk (hb:s.balls=0) (hk:0≤s.strikes∧s.strikes≤2) (ho:0≤s.outs∧s.outs≤2):rU (bV s (wkP g1 g2 g3),())=some (if(g1&&(s.b1==0)||(g2&&(s.b2==0)||g3&&(s.b3==0)))=true then 4
  else if(g1&&(s.b1==0)||(g2&&((s.b1==0)||(s.b2==0))||g3&&((s.b1==0)||((s.b2==0)||(s.b3==0)))))=true then 8
  else if(!g1&&!(s.b1==0)||(!g2&&(!(s.b1==0)&&!(s.b2==0))||!g3&&(!(s.b1==0)&&(!(s.b2==0)&&!(s.b3==0)))))=true then 10 else 0):=by
 obtain⟨ok,_,_,hm⟩:=zC g1 g2 g3
 have hc:=wk_cnt (s:=s) (g1:=g1) (g2:=g2) (g3:=g3) hb hk
 have hO:=zB (s:=s) (g1:=g1) (g2:=g2) (g3:=g3) ho
 generalize ht:wkP g1 g2 g3=t at *
 have hp:t.p=[66,66,66,66]:=by rw [←ht];rfl
 have he:t.e=[87]:=by rw [←ht];rfl
 have hl:t.l=false:=by rw [←ht];rfl
 have hM:t.m=mvG g1 g2 g3:=by rw [←ht];rfl
 have hv:vEv t.e:=by rw [he];exact wk_ev
 rw [aqq]
 have e1:axj (bV s t,())=some false:=by
  have:axj (bV s t,())=some (!((oL s t).2.2.1==0)):=rfl
  rw [this,hc];rfl
 have e2:axi (bV s t,())=some false:=by
  have h:=r2_p (s:=bV s t) hv (by show t.p.length<_;rw [hp];decide) (by show 0≤(oL s t).1.1∧(oL s t).1.1≤4∧0≤(oL s t).1.2.1∧(oL s t).1.2.1≤3∧¬((oL s t).1.1=4∧(oL s t).1.2.1=3);rw [hc];dsimp only;omega)
  rw [h]
  show some (!ax4 (askC ((oL s t).1.1,(oL s t).1.2.1) t.p) t.e)=_
  rw [hc,he];rfl
 have e3:axh (bV s t,())=some false:=by
  rw [r3_p (s:=bV s t) hm]
  show some ((mAt t.m 0).isSome==decide (t.e=[]))=_
  rw [he,hM]
  cases g1<;>cases g2<;>cases g3<;>rfl
 have e4:axg (bV s t,())=some (g1&&(s.b1==0)||(g2&&(s.b2==0)||g3&&(s.b3==0))):=by
  rw [r4_p (s:=bV s t) hm]
  show some (t.m.any (c4 s.b1 s.b2 s.b3))=_
  rw [hM]
  cases g1<;>cases g2<;>cases g3<;>simp [mvG,c4,bzB]<;>(cases(s.b1==0)<;>cases(s.b2==0)<;>cases(s.b3==0)<;>rfl)
 have e5:axf (bV s t,())=some false:=by
  rw [r5_p (s:=bV s t) hm hv (by show(mAt t.m 0).isSome=!decide (t.e=[]);rw [he,hM];cases g1<;>cases g2<;>cases g3<;>rfl)]
  show some (match mAt t.m 0 with|some m=>!batFits t.e m|none=>false)=_
  rw [he,hM]
  cases g1<;>cases g2<;>cases g3<;>rfl
 have e6:axe (bV s t,())=some false:=by
  rw [r6_p (s:=bV s t) hm hv]
  show some (evIn t.e [75]&&_)=_
  rw [he];rfl
 have e7:axd (bV s t,())=some false:=by
  rw [r7_p (s:=bV s t) hv]
  show some (evIn t.e [89]&&_)=_
  rw [he];rfl
 have e8:axc (bV s t,())=some (g1&&(s.b1==0)||(g2&&((s.b1==0)||(s.b2==0))||g3&&((s.b1==0)||((s.b2==0)||(s.b3==0))))):=by
  rw [r8_p (s:=bV s t) hm hv]
  have:∀m,c8 (bV s t) m=(decide (0<m.f)&&!wayB t.e t.p (fcS s m.f) (batIn t.m [99]) (batIn t.m [99,107]) m):=fun _=>rfl
  show some (t.m.any (c8 (bV s t)))=_
  rw [show c8 (bV s t)=fun m=>(decide (0<m.f)&&!wayB t.e t.p (fcS s m.f) (batIn t.m [99]) (batIn t.m [99,107]) m)from rfl,he,hp,hM]
  unfold fcS
  cases g1<;>cases g2<;>cases g3<;>cases(s.b1==0)<;>cases(s.b2==0)<;>cases(s.b3==0)<;>rfl
 have e9:axb (bV s t,())=some false:=by
  rw [r9_p (s:=bV s t) hm]
  show some (t.m.any bk9&&_)=_
  rw [hM]
  cases g1<;>cases g2<;>cases g3<;>rfl
 have e10:axa (bV s t,())=some (!g1&&!(s.b1==0)||(!g2&&(!(s.b1==0)&&!(s.b2==0))||!g3&&(!(s.b1==0)&&(!(s.b2==0)&&!(s.b3==0))))):=by
  rw [r10_p (s:=bV s t) hm hv]
  show some (evIn t.e [87,72,73]&&(wtB t.m 0 true||(wtB t.m 1 (!(s.b1==0))||(wtB t.m 2 (!(s.b1==0)&&!(s.b2==0))||wtB t.m 3 (!(s.b1==0)&&(!(s.b2==0)&&!(s.b3==0)))))))=_
  rw [he,hM]
  cases g1<;>cases g2<;>cases g3<;>cases(s.b1==0)<;>cases(s.b2==0)<;>cases(s.b3==0)<;>rfl
 have e12:ax8 (bV s t,())=some false:=by
  rw [r12_p]
  show some (decide (3<outsI s t))=_
  rw [hO]
  have:decide (3<s.outs)=false:=by simp;omega
  rw [this]
 have e13:ax7 (bV s t,())=some false:=by
  rw [r13_p (s:=bV s t) hm]
  show some (t.l&&_)=_
  rw [hl];rfl
 rw [e1,obind_some,cond_false,e2,obind_some,cond_false,e3,obind_some,cond_false,e4,obind_some]
 cases h4:(g1&&(s.b1==0)||(g2&&(s.b2==0)||g3&&(s.b3==0)))with
 | true=>rfl
 | false=>
 rw [cond_false,e5,obind_some,cond_false,e6,obind_some,cond_false,e7,obind_some,cond_false,e8,obind_some]
 cases h8:(g1&&(s.b1==0)||(g2&&((s.b1==0)||(s.b2==0))||g3&&((s.b1==0)||((s.b2==0)||(s.b3==0)))))with
 | true=>rfl
 | false=>
 rw [cond_false,e9,obind_some,cond_false,e10,obind_some]
 cases h10:(!g1&&!(s.b1==0)||(!g2&&(!(s.b1==0)&&!(s.b2==0))||!g3&&(!(s.b1==0)&&(!(s.b2==0)&&!(s.b3==0)))))with
 | true=>rfl
 | false=>
 have e11:ax9 (bV s t,())=some false:=by
  rw [r11_p (s:=bV s t) hm]
  show some (ordB (placeB t.m s.b1 s.b2 s.b3 0) (placeB t.m s.b1 s.b2 s.b3 1) (placeB t.m s.b1 s.b2 s.b3 2) (placeB t.m s.b1 s.b2 s.b3 3))=_
  rw [hM]
  revert h4 h8 h10
  unfold placeB bzB
  cases g1<;>cases g2<;>cases g3<;>cases(s.b1==0)<;>cases(s.b2==0)<;>cases(s.b3==0)<;>decide
 rw [cond_false,e11,obind_some,cond_false,e12,obind_some,cond_false,e13,obind_some];rfl
end
end
end Go.Ev
