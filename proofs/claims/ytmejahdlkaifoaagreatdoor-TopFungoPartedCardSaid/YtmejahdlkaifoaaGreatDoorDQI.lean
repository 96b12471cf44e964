import Derived.Test.YtmejahdlkaifoaaGreatDoorDQH
set_option linter.unusedSimpArgs false
set_option linter.unusedVariables false
namespace Go.Ev
open Go.RowKit Go.Proofs
set_option maxRecDepth 100000
set_option maxHeartbeats 8000000
set_option linter.unusedSimpArgs false
noncomputable section
def offB (i f x:Int):Int:=if f=i then 0 else x
def onB (i:Int) (m:Mv) (v x:Int):Int:=if m.o=false∧m.t=i then v else x
def mvB (i:Int) (v:Mv→Int) (x:Int) (m:Mv):Int:=onB i m (v m) (offB i m.f x)
def ayS (s:Tn) (m:Mv):Int:=slotI s.s_half s.s_n0 s.s_n1 s.s_b1 s.s_b2 s.s_b3 m.f
section
variable {s:Tn}
theorem lp147 (h:aB s.p_m=0) (hs:s.s_half=0∨s.s_half=1):∀(j k n:Nat) (x3 x2 x1:Int),s.p_m.length=k+j→axt s (n+j+1) (.k8 (k:Int) x3 x2 x1)=some ((s.p_m.drop k).foldl (mvB 1 (ayS s)) x1,(s.p_m.drop k).foldl (mvB 2 (ayS s)) x2,(s.p_m.drop k).foldl (mvB 3 (ayS s)) x3,())
 | 0,k,n,x3,x2,x1,hl=>by
   have c1:decide ((k:Int)<((s.p_m.length:Nat):Int))=false:=by simp;omega
   rw [List.drop_eq_nil_of_le (by omega)]
   simp only [axs,zX,TS,w6,c1,cond_false,List.foldl_nil]
 | j+1,k,n,x3,x2,x1,hl=>by
   have hlen:=bK h
   have hk:k<s.p_m.length:=by omega
   obtain⟨m,hm⟩:∃m,s.p_m[k]? = some m:=⟨s.p_m[k],List.getElem?_eq_getElem hk⟩
   have ih:=fun x3 x2 x1=>lp147 h hs j (k+1) n x3 x2 x1 (by omega)
   have hr:=gI (q7 h m (List.mem_of_getElem? hm))
   have q:Sz91 (s,m.f,())=some (ayS s m):=s91 hs (by omega)
   have c1:decide ((k:Int)<((s.p_m.length:Nat):Int))=true:=by simp;omega
   have c2:inR (k:Int) s.p_m.length=true:=iL (by omega) (by omega)
   have w4:IntKind.i64.wrap ((k:Int)+1)=((k+1:Nat):Int):=by rw [cG]<;>omega
   rw [bZ hm,show n+(j+1)+1=(n+j+1)+1 from rfl]
   generalize n+j+1=N at ih ⊢
   simp only [axs,zX,TS,w6,c1,c2,cond_true,Int.toNat_natCast,aR hm,w4,ih,q,obind_some,List.foldl_cons]
   have h4:m.f=0∨m.f=1∨m.f=2∨m.f=3:=by omega
   have h5:m.t=1∨m.t=2∨m.t=3∨m.t=4:=by omega
   rcases h4 with h4|h4|h4|h4<;>rcases h5 with h5|h5|h5|h5<;>cases ho:m.o<;>simp [h4,h5,ho,mvB,onB,offB,wr0,wr1,wr2,wr3]
theorem s147 (h:aB s.p_m=0) (hs:s.s_half=0∨s.s_half=1):awk (s,())=some (s.p_m.foldl (mvB 1 (ayS s)) s.s_b1,s.p_m.foldl (mvB 2 (ayS s)) s.s_b2,s.p_m.foldl (mvB 3 (ayS s)) s.s_b3,()):=by
 have e:=lp147 h hs s.p_m.length 0 63 s.s_b3 s.s_b2 s.s_b1 (by omega)
 rw [←kU,List.drop_zero]at e
 show Ez147 (s.p_m.length+64) s=_
 unfold Ez147 Tz147
 simp only [TS,w6]
 exact e
end
section
variable {s:St}{t:Pl}
def pl (s:St) (t:Pl) (f:Int):Int:=placeB t.m s.b1 s.b2 s.b3 f
def sl (s:St) (f:Int):Int:=slotI s.half s.n0 s.n1 s.b1 s.b2 s.b3 f
def setB (i p v x:Int):Int:=if p=i then v else x
theorem st22 (h:aB t.m=0) (hs:s.half=0∨s.half=1) (n:Nat) (a b c d e f g x3 x2 x1:Int) {i:Int}(hi:i=0∨i=1∨i=2∨i=3):eS s t (n+1) (.k22 a b c d e f g i x3 x2 x1)=eS s t n (.k22 a b c d e f g (IntKind.i64.wrap (i+1)) (setB 3 (pl s t i) (sl s i) x3) (setB 2 (pl s t i) (sl s i) x2) (setB 1 (pl s t i) (sl s i) x1)):=by
 have q1:=s98 (s:=s) h hi
 have q2:=s97 hs hi
 have c1:decide (i<(4:Int))=true:=by simp;omega
 have hp:0≤placeB t.m s.b1 s.b2 s.b3 i:=i0 h (by omega)
 have hp4:placeB t.m s.b1 s.b2 s.b3 i≤4:=by
  unfold placeB
  split
  · rename_i m hm
    have:=gI (rB h hm).2
    split<;>omega
  · split
    · omega
    · split<;>omega
 simp only [Ez95J_s,bqW,TS,w6,c1,cond_true,q1,q2,obind_some]
 show _=eS s t n (.k22 a b c d e f g (IntKind.i64.wrap (i+1)) (setB 3 (placeB t.m s.b1 s.b2 s.b3 i) (slotI s.half s.n0 s.n1 s.b1 s.b2 s.b3 i) x3) (setB 2 (placeB t.m s.b1 s.b2 s.b3 i) (slotI s.half s.n0 s.n1 s.b1 s.b2 s.b3 i) x2) (setB 1 (placeB t.m s.b1 s.b2 s.b3 i) (slotI s.half s.n0 s.n1 s.b1 s.b2 s.b3 i) x1))
 generalize placeB t.m s.b1 s.b2 s.b3 i=p at *
 generalize slotI s.half s.n0 s.n1 s.b1 s.b2 s.b3 i=v at *
 have h5:p=0∨p=1∨p=2∨p=3∨p=4:=by omega
 rcases h5 with rfl|rfl|rfl|rfl|rfl<;>simp [setB,wr0,wr1,wr2]
def lB (s:St) (t:Pl) (i:Int):Int:=setB i (pl s t 3) (sl s 3) (setB i (pl s t 2) (sl s 2) (setB i (pl s t 1) (sl s 1) (setB i (pl s t 0) (sl s 0) 0)))
theorem lp22 (h:aB t.m=0) (hs:s.half=0∨s.half=1) (n:Nat) (a b c d e f g:Int):eS s t (n+5) (.k22 a b c d e f g 0 0 0 0)=some (⟨s.inn,s.half,a,b,c,lB s t 1,lB s t 2,lB s t 3,d,e,g,f,s.over⟩:St):=by
 have w1:IntKind.i64.wrap (0+1)=1:=by decide
 have w2:IntKind.i64.wrap (1+1)=2:=by decide
 have w3:IntKind.i64.wrap (2+1)=3:=by decide
 have w4:IntKind.i64.wrap (3+1)=4:=by decide
 rw [show n+5=(n+4)+1 from rfl,st22 h hs _ _ _ _ _ _ _ _ _ _ _ (by simp),w1,show n+4=(n+3)+1 from rfl,st22 h hs _ _ _ _ _ _ _ _ _ _ _ (by simp),w2,show n+3=(n+2)+1 from rfl,st22 h hs _ _ _ _ _ _ _ _ _ _ _ (by simp),w3,show n+2=(n+1)+1 from rfl,st22 h hs _ _ _ _ _ _ _ _ _ _ _ (by simp),w4]
 rfl
end
end
end Go.Ev
