import Derived.Test.YtmejahdlkaifoaaGreatDoorDQF
set_option linter.unusedSimpArgs false
set_option linter.unusedVariables false
namespace Go.Ev
open Go.RowKit Go.Proofs
set_option maxRecDepth 100000
set_option maxHeartbeats 8000000
set_option linter.unusedSimpArgs false
noncomputable section
structure pW (s:St) (t:Pl):Prop where
 cnt:(fJ s t).2.2.1=0
 has:(mAt t.m 0).isSome=!decide (t.e=[])
 four:t.m.any (c4 s.b1 s.b2 s.b3)=false
 fits:∀m,mAt t.m 0=some m→batFits t.e m=true
 order:akN (placeB t.m s.b1 s.b2 s.b3 0) (placeB t.m s.b1 s.b2 s.b3 1) (placeB t.m s.b1 s.b2 s.b3 2) (placeB t.m s.b1 s.b2 s.b3 3)=false
 outs:outsI s t≤3
 late:(t.l&&(decide (outsI s t<3)||(((t.m.countP rnM:Nat):Int)==0)))=false
 asks:pS (askC ((fJ s t).1.1,(fJ s t).1.2.1) t.p) t.e=true
theorem awZ {s:St}{t:Pl}(h:aB t.m=0) (hv:vEv t.e) (hb:aW t.p=true) (hl:t.p.length<9223372036854775808):two (m7 (cC s t,())) (Sz94 (s,t,())) (pW s t):=by
 show two (ayA (t.m.length+64) (cC s t)) (Ez94 (t.m.length+64) s t) _
 unfold ayA bq0 Ez94 Tz94
 simp only [TS,w6]
 have e74:Sz74 ()=Ez74:=rfl
 rw [e74]
 unfold Ez74 Tz74
 simp only [TS,w6]
 rw [obind_some,show t.m.length+64=(t.m.length+50)+14 from rfl]
 generalize t.m.length+50=n
 have w2:IntKind.i64.wrap (1+1)=2:=by decide
 have w3:IntKind.i64.wrap (2+1)=3:=by decide
 have w4:IntKind.i64.wrap (3+1)=4:=by decide
 have w5:IntKind.i64.wrap (4+1)=5:=by decide
 have w6:IntKind.i64.wrap (5+1)=6:=by decide
 have w7:IntKind.i64.wrap (6+1)=7:=by decide
 have w8:IntKind.i64.wrap (7+1)=8:=by decide
 have w9:IntKind.i64.wrap (8+1)=9:=by decide
 have w10:IntKind.i64.wrap (9+1)=10:=by decide
 have w11:IntKind.i64.wrap (10+1)=11:=by decide
 have w12:IntKind.i64.wrap (11+1)=12:=by decide
 have w13:IntKind.i64.wrap (12+1)=13:=by decide
 have w14:IntKind.i64.wrap (13+1)=14:=by decide
 rw [show n+14=(n+13)+1 from rfl,bjM,u94 s t _ 1 (by decide),w2]
 refine b4 (b:=!((fJ s t).2.2.1==0)) rfl (rr1 h hl) (by decide) fun g1=>?_
 have g1':(fJ s t).2.2.1=0:=by simpa using g1
 have hk:=ajX g1'
 rw [show n+13=(n+12)+1 from rfl,bjL,u94 s t _ 2 (by decide),w3]
 refine b4 (r2_p (s:=cC s t) hv hl hk) (rr2 h hl) (by decide) fun g2=>?_
 rw [show n+12=(n+11)+1 from rfl,bjK,u94 s t _ 3 (by decide),w4]
 refine b4 (r3_p (s:=cC s t) h) ((rr3 h hl).trans (congrArg some ?_)) (by decide) fun g3=>?_
 · show (!((mAt t.m 0).isSome==(!decide (t.e=[]))))=((mAt t.m 0).isSome==decide (t.e=[]))
   cases(mAt t.m 0).isSome<;>cases decide (t.e=[])<;>rfl
 have g3':(mAt t.m 0).isSome=!decide (t.e=[]):=by
  have g3:((mAt t.m 0).isSome==decide (t.e=[]))=false:=g3
  revert g3
  cases(mAt t.m 0).isSome<;>cases decide (t.e=[])<;>decide
 rw [show n+11=(n+10)+1 from rfl,bjJ,u94 s t _ 4 (by decide),w5]
 refine b4 (r4_p (s:=cC s t) h) (eq4 h hv hl) (by decide) fun g4=>?_
 rw [show n+10=(n+9)+1 from rfl,bjI,u94 s t _ 5 (by decide),w6]
 refine b4 (r5_p (s:=cC s t) h hv g3') (rr5 h hl) (by decide) fun g5=>?_
 have g5':∀m,mAt t.m 0=some m→batFits t.e m=true:=by
  intro m hm
  have g5:(match mAt t.m 0 with
   | some m=>!batFits t.e m
   | none=>false)=false:=g5
  rw [hm]at g5
  simpa using g5
 rw [show n+9=(n+8)+1 from rfl,bjH,u94 s t _ 6 (by decide),w7]
 refine b4 (r6_p (s:=cC s t) h hv) ((rr6 h hl g3').trans (congrArg some ?_)) (by decide) fun g6=>?_
 · show _=(evIn t.e [75]&&_)
   rw [evIn1];rfl
 rw [show n+8=(n+7)+1 from rfl,bjG,u94 s t _ 7 (by decide),w8]
 refine b4 (r7_p (s:=cC s t) hv) ((rr7 h hl).trans (congrArg some ?_)) (by decide) fun g7=>?_
 · show _=(evIn t.e [89]&&_)
   rw [evIn1];rfl
 rw [show n+7=(n+6)+1 from rfl,bjF,u94 s t _ 8 (by decide),w9]
 refine b4 (r8_p (s:=cC s t) h hv) (eq8 h hv hl) (by decide) fun g8=>?_
 rw [show n+6=(n+5)+1 from rfl,bjE,u94 s t _ 9 (by decide),w10]
 refine b4 (r9_p (s:=cC s t) h) (eq9 h hv hl g4) (by decide) fun g9=>?_
 rw [show n+5=(n+4)+1 from rfl,bjD,u94 s t _ 10 (by decide),w11]
 refine b4 (ay0 (s:=cC s t) h hv) (eq10 h hv hl g3' g5') (by decide) fun g10=>?_
 rw [show n+4=(n+3)+1 from rfl,avP,u94 s t _ 11 (by decide),w12]
 refine b4 (ayZ (s:=cC s t) h) (eq11 h hv hl) (by decide) fun g11=>?_
 rw [show n+3=(n+2)+1 from rfl,avO,u94 s t _ 12 (by decide),w13]
 refine b4 (b:=decide (3<outsI s t)) ayY (rr12 h hl) (by decide) fun g12=>?_
 have g12':outsI s t≤3:=by simp at g12;exact g12
 rw [show n+2=(n+1)+1 from rfl,avN,u94 s t _ 13 (by decide),w14]
 refine b4 (ayX (s:=cC s t) h) ((rr13 h hl).trans (congrArg some ?_)) (by decide) fun g13=>?_
 · show (t.l&&(!(outsI s t==3)||_))=(t.l&&(decide (outsI s t<3)||_))
   have:(!(outsI s t==3))=decide (outsI s t<3):=by rw [Bool.eq_iff_iff];simp;omega
   rw [this];rfl
 refine⟨0,avM _ _ _ _ _ _ _ _ _ _ _ _ _ _ _,rfl,fun _=>⟨g1',g3',g4,g5',g11,g12',g13,by have g2:(!pS (askC ((fJ s t).1.1,(fJ s t).1.2.1) t.p) t.e)=false:=g2;simpa using g2⟩,by decide,by decide⟩
end
end Go.Ev
