import Derived.Test.YthobdjmonidpoaaGreatDoorDQA
set_option linter.unusedSimpArgs false
set_option linter.unusedVariables false
namespace Go.Ev
open Go.RowKit Go.Proofs
set_option maxRecDepth 100000
set_option maxHeartbeats 8000000
set_option linter.unusedSimpArgs false
noncomputable section
def placeB (l:List Mv) (b1 b2 b3:Int) (f:Int):Int:=match mAt l f with
 | some m=>if m.o then 0 else m.t
 | none=>if f=0 then 0 else if bzB b1 b2 b3 f then 0 else f
def badP (x y:Int):Bool:=decide (0<x)&&(decide (0<y)&&(decide (y≤x)&&!((x==4)&&(y==4))))
def av7 (p0 p1 p2 p3:Int):Bool:=badP p0 p1||(badP p0 p2||(badP p0 p3||(badP p1 p2||(badP p1 p3||badP p2 p3))))
section
variable {s:St}{t:Pl}{u:Int}
theorem s98 (h:aB t.m=0) {i:Int}(hi:i=0∨i=1∨i=2∨i=3):Sz98 (s,t,i,())=some (placeB t.m s.b1 s.b2 s.b3 i):=by
 have hl:=bF h
 have hx:=aqU i t.m
 obtain⟨p,e,b,l⟩:=t
 dsimp only at h hl hx ⊢
 show Ez98 s _ i=_
 unfold Ez98 Tz98
 simp only [TS,w6]
 rw [ave hl,obind_some]
 unfold placeB
 cases hm:mAt l i with
 | none=>
   rw [hm]at hx
   simp only at hx
   rcases hi with rfl|rfl|rfl|rfl<;>simp [hx,bzB,wr0,wr1,wr2]<;>(try (cases hb:(s.b1==0)<;>simp_all))<;>(try (cases hb:(s.b2==0)<;>simp_all))<;>(try (cases hb:(s.b3==0)<;>simp_all))
 | some m=>
   rw [hm]at hx
   obtain⟨j,h1,h2⟩:=hx
   have hj:j<l.length:=(List.getElem?_eq_some_iff.1 h2).1
   have c2:inR (j:Int) l.length=true:=fE (by omega) (by omega)
   have c3:decide ((0:Int)≤(j:Int))=true:=by simp
   simp only
   rw [h1,c2,c3,Int.toNat_natCast,aW h2]
   cases m.o<;>rfl
theorem st92 (h:aB t.m=0) (n:Nat) {i j:Int}(hi:i=0∨i=1∨i=2∨i=3) (hj:j=1∨j=2∨j=3):aC s t u (n+1) (.k92 j i)=cond (badP (placeB t.m s.b1 s.b2 s.b3 i) (placeB t.m s.b1 s.b2 s.b3 j)) (some true) (aC s t u n (.k92 (IntKind.i64.wrap (j+1)) i)):=by
 have q1:=s98 (s:=s) h hi
 have q2:=s98 (s:=s) (i:=j) h (by omega)
 have u1:decide (j<(4:Int))=true:=by simp;omega
 generalize placeB t.m s.b1 s.b2 s.b3 i=x at *
 generalize placeB t.m s.b1 s.b2 s.b3 j=y at *
 have u2:aC s t u (n+1) (.k92 j i)=(cond (decide (j<(4:Int))) (aX (Sz98 (s,t,i,())) fun r82=>(aX (Sz98 (s,t,j,())) fun r83=>(cond (decide ((0:Int)<r82)) (cond (decide ((0:Int)<r83)) (cond (decide (r83≤r82)) (cond (r82==(4:Int)) (cond (!(r83==(4:Int))) (some true) (aC s t u n (.k92 (IntKind.i64.wrap (j+(1:Int))) i))) (some true)) (aC s t u n (.k92 (IntKind.i64.wrap (j+(1:Int))) i))) (aC s t u n (.k92 (IntKind.i64.wrap (j+(1:Int))) i))) (aC s t u n (.k92 (IntKind.i64.wrap (j+(1:Int))) i))))) (aC s t u n (.k86 (IntKind.i64.wrap (i+(1:Int)))))):=rfl
 rw [u2,u1,q1,obind_some,q2,obind_some]
 unfold badP
 cases decide (0<x)<;>cases decide (0<y)<;>cases decide (y≤x)<;>cases(x==4)<;>cases(y==4)<;>rfl
theorem awb (n:Nat) (i:Int):aC s t u (n+1) (.k92 4 i)=aC s t u n (.k86 (IntKind.i64.wrap (i+1))):=by rw [Ez153J_s];simp only [Tz153J,TS,w6,show decide ((4:Int)<4)=false from by decide,cond_false]
theorem st86 (n:Nat) {i:Int}(hi:i=0∨i=1∨i=2∨i=3):aC s t u (n+1) (.k86 i)=aC s t u n (.k92 (IntKind.i64.wrap (i+1)) i):=by
 rcases hi with rfl|rfl|rfl|rfl<;>rfl
theorem st81 (m:Nat):aC s t u (m+1) .k81=cond (!(u==11)) (some false) (aC s t u m (.k86 0)):=by rw [Ez153J_s];simp only [Tz153J,TS]
theorem st624 (m:Nat) (x:Bool):aC s t u (m+1) (.k62 4 x)=aC s t u m .k81:=by rw [Ez153J_s];simp only [Tz153J,TS,show decide ((4:Int)<4)=false from by decide,cond_false]
theorem st61 (m:Nat) (x:Bool):aC s t u (m+1) (.k61 x)=aC s t u m (.k62 1 x):=by rw [Ez153J_s];simp only [Tz153J,TS]
def oR (s:St) (t:Pl) (u:Int):Bool:=if u=11 then av7 (placeB t.m s.b1 s.b2 s.b3 0) (placeB t.m s.b1 s.b2 s.b3 1) (placeB t.m s.b1 s.b2 s.b3 2) (placeB t.m s.b1 s.b2 s.b3 3)else false
theorem lp81 (h:aB t.m=0) (n:Nat):aC s t u (n+17) .k81=some (oR s t u):=by
 by_cases hu:u=11
 · subst hu
   have w1:IntKind.i64.wrap (0+1)=1:=by decide
   have w2:IntKind.i64.wrap (1+1)=2:=by decide
   have w3:IntKind.i64.wrap (2+1)=3:=by decide
   have w4:IntKind.i64.wrap (3+1)=4:=by decide
   have u1:aC s t 11 (n+17) .k81=aC s t 11 (n+16) (.k86 0):=(st81 (n+16)).trans (by rw [show((11:Int)==11)=true from rfl,Bool.not_true,cond_false])
   rw [u1,st86 _ (by simp),w1,st92 h _ (by simp) (by simp),w2,st92 h _ (by simp) (by simp),w3,st92 h _ (by simp) (by simp),w4,awb,w1,
    st86 _ (by simp),w2,st92 h _ (by simp) (by simp),w3,st92 h _ (by simp) (by simp),w4,awb,w2,st86 _ (by simp),w3,st92 h _ (by simp) (by simp),w4,awb,w3,st86 _ (by simp),w4,awb,w4]
   have u9:∀m,aC s t 11 (m+1) (.k86 4)=some false:=fun _=>rfl
   rw [u9]
   simp only [oR,av7,if_true]
   cases badP (placeB t.m s.b1 s.b2 s.b3 0) (placeB t.m s.b1 s.b2 s.b3 1)<;>cases badP (placeB t.m s.b1 s.b2 s.b3 0) (placeB t.m s.b1 s.b2 s.b3 2)<;>cases badP (placeB t.m s.b1 s.b2 s.b3 0) (placeB t.m s.b1 s.b2 s.b3 3)<;>cases badP (placeB t.m s.b1 s.b2 s.b3 1) (placeB t.m s.b1 s.b2 s.b3 2)<;>cases badP (placeB t.m s.b1 s.b2 s.b3 1) (placeB t.m s.b1 s.b2 s.b3 3)<;>cases badP (placeB t.m s.b1 s.b2 s.b3 2) (placeB t.m s.b1 s.b2 s.b3 3)<;>rfl
 · have e:(u==11)=false:=by simpa using hu
   have u1:aC s t u (n+17) .k81=(cond (!(u==(11:Int))) (some false) (aC s t u (n+16) (.k86 (0:Int)))):=st81 (n+16)
   rw [u1,e]
   unfold oR
   rw [if_neg hu];rfl
theorem st62 (h:aB t.m=0) (n:Nat) (x:Bool) {i:Int}(hi:i=1∨i=2∨i=3):aC s t u (n+3) (.k62 i x)=cond (bzB s.b1 s.b2 s.b3 i) (aC s t u (n+2) (.k62 (IntKind.i64.wrap (i+1)) x)) (cond (chkB s t u x i) (some true) (aC s t u n (.k62 (IntKind.i64.wrap (i+1)) x))):=by
 have hl:=bF h
 have q:zU (t,i,())=some (mvIx t.m i):=by
  obtain⟨p,e,b,l⟩:=t
  exact ave hl
 rw [←st71 h n x hi]
 rcases hi with rfl|rfl|rfl<;>simp [Ez153J_s,Tz153J,TS,w6,wr0,wr1,wr2,bzB,q,obind_some]
def sZ (s:St) (t:Pl) (u:Int) (x:Bool):Bool:=(!bzB s.b1 s.b2 s.b3 1&&chkB s t u x 1)||((!bzB s.b1 s.b2 s.b3 2&&chkB s t u x 2)||((!bzB s.b1 s.b2 s.b3 3&&chkB s t u x 3)||oR s t u))
theorem lp62 (h:aB t.m=0) (n:Nat) (x:Bool):aC s t u (n+27) (.k62 1 x)=some (sZ s t u x):=by
 have w2:IntKind.i64.wrap (1+1)=2:=by decide
 have w3:IntKind.i64.wrap (2+1)=3:=by decide
 have w4:IntKind.i64.wrap (3+1)=4:=by decide
 have e4:∀m,aC s t u (m+18) (.k62 4 x)=some (oR s t u):=fun m=>(st624 (m+17) x).trans (lp81 h m)
 have e3:∀m,aC s t u (m+21) (.k62 3 x)=some ((!bzB s.b1 s.b2 s.b3 3&&chkB s t u x 3)||oR s t u):=fun m=>by
  have b:aC s t u (m+18+2) (.k62 4 x)=some (oR s t u):=e4 (m+2)
  rw [show m+21=(m+18)+3 from rfl,st62 h _ x (by simp),w4,b,e4 m]
  cases bzB s.b1 s.b2 s.b3 3<;>cases chkB s t u x 3<;>rfl
 have e2:∀m,aC s t u (m+24) (.k62 2 x)=some ((!bzB s.b1 s.b2 s.b3 2&&chkB s t u x 2)||((!bzB s.b1 s.b2 s.b3 3&&chkB s t u x 3)||oR s t u)):=fun m=>by
  have b:aC s t u (m+21+2) (.k62 3 x)=_:=e3 (m+2)
  rw [show m+24=(m+21)+3 from rfl,st62 h _ x (by simp),w3,b,e3 m]
  cases bzB s.b1 s.b2 s.b3 2<;>cases chkB s t u x 2<;>rfl
 have b:aC s t u (n+24+2) (.k62 2 x)=_:=e2 (n+2)
 rw [show n+27=(n+24)+3 from rfl,st62 h _ x (by simp),w2,b,e2 n]
 unfold sZ
 cases bzB s.b1 s.b2 s.b3 1<;>cases chkB s t u x 1<;>rfl
theorem rrL (h:aB t.m=0) (hv:vEv t.e) (hl:t.p.length<9223372036854775808) (hu:u=4∨u=8∨u=9∨u=10∨u=11):iS (s,t,u,())=some (t.m.any (chkR s t u)||sZ s t u (t.m.any balk)):=by
 have hlen:=bF h
 show iH (t.m.length+64) s t u=_
 unfold iH sD
 simp only [TS,w6]
 rw [s29 hl,obind_some,awV h,obind_some]
 obtain⟨n,hn⟩:∃n,t.m.length+64=(n+28)+4*t.m.length+1:=⟨64-29-3*t.m.length,by omega⟩
 rw [hn]
 have e0:=lp44 (s:=s) (u:=u) h hv t.m.length 0 (n+28) false (by omega)
 rw [List.drop_zero,Bool.false_or]at e0
 have e1:aC s t u (n+28) (.k61 (t.m.any balk))=some (sZ s t u (t.m.any balk)):=(st61 (n+27) _).trans (lp62 h n _)
 rw [e1]at e0
 have e2:aC s t u (n+28+4*t.m.length+1) (.k44 false 0)=some (t.m.any (chkR s t u)||sZ s t u (t.m.any balk)):=e0.trans (by cases t.m.any (chkR s t u)<;>rfl)
 rw [e2]
 rcases hu with rfl|rfl|rfl|rfl|rfl<;>rfl
end
end
end Go.Ev
