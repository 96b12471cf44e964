import Derived.Test.YtgjbmohchdmdkaaGreatDoorDRun
set_option linter.unusedSimpArgs false
set_option linter.unusedVariables false
namespace Go.Ev
open Go.RowKit Go.Proofs
set_option maxRecDepth 100000
set_option maxHeartbeats 4000000
noncomputable section
theorem bqc (l:List Nat):((List.range 256).map fun c=>run Tryz.prog gT quiet 2000 (.call 230 [.str l,.int .u8 ((c:Nat):Int)] H.start))=(List.range 256).map fun c=>some [.val (.int .i64 (aX l c 0)) H.start]:=by kernel_rfl
def A230:Row (List Nat×Int×Unit):=Row.cons cS (Row.cons cU8 Row.nil)
def S230 (x:List Nat×Int×Unit):Option Int:=if 0≤x.2.1∧x.2.1<256 then some (aX x.1 x.2.1.toNat 0)else none
theorem fn230:FnT 230 (fOf A230 cI S230):=by
 intro B0 W0 G a u hF vs fro w hvs hfz hb hs
 obtain⟨⟨l,c,_⟩,r,rfl,h1,rfl⟩:=yB hF
 unfold S230 at h1
 split at h1
 rotate_left
 · cases h1
 rename_i hc
 cases h1
 dsimp only at hc hvs ⊢
 obtain⟨k,rfl⟩:∃k:Nat,c=(k:Int):=⟨c.toNat,by omega⟩
 have hk:k<256:=by omega
 have hr:run Tryz.prog gT quiet 2000 (.call 230 [.str l,.int .u8 ((k:Nat):Int)] H.start)=some [.val (.int .i64 (aX l k 0)) H.start]:=by
  have:=congrArg (fun q=>q[k]?) (bqc l)
  simpa [hk]using this
 have e:V.cs (A230.v (l,((k:Nat):Int),()))=[.str l,.int .u8 ((k:Nat):Int)]:=by
  show V.cs [V.str l,V.int .u8 _]=_
  simp only [V.cs,V.c]
 rw [e]at hvs
 have G1:GRel w.heap.size w gT:=G.grow hb hs
 refine(sF mixed aja hfz G1 (aqA (W0:=⟨w,fro⟩) mixed aja G1 100 akw) hr hvs).mono ?_
 rintro e w' ⟨v,h',u,ρ,hm,rfl,hv,hR⟩
 simp only [List.mem_singleton,Out.val.injEq]at hm
 obtain⟨rfl,rfl⟩:=hm
 have e2:(cI.v (aX l k 0)).c=.int .i64 (aX l k 0):=by simp only [ayK,V.c]
 cases hv
 refine⟨_,ρ.fro,rfl,?_,hR.below,?_⟩
 · rw [show(((k:Nat):Int)).toNat=k from Int.toNat_natCast k,e2];exact .int _ _
 · have hfro:(fun b=>if b<w.heap.size then fro b else ρ.fro b)=ρ.fro:=by
    funext b
    split
    · rename_i hb;exact(hR.fz0 b hb).symm
    · rfl
   rw [hfro];exact hR.fz
def K230:Con Tryz.prog gT:=Con.of 230 A230 cI S230 fn230
def CL:List (List Nat):=[[107,102,103,112,116],[97],[98,116,111,102,99,103],[110],[121],[],[99,107,110,121],[73,78],[88,89],[75],[89],[87,72,73],[75,87],[88,75],[72,73,78],[99,107],[99],[107]]
def OL:List Nat:=[75,87,72,73,88,78,89,98,97,115,112,107,116,111,102,103,99,100,110,121]
def EL:List Nat:=[75,87,72,73,88,78,89]
theorem con_ev:((List.range 256).all fun r=>axS (hasC EL r) (run Tryz.prog gT quiet 2000 (.call 181 [.str EL,.str [r]] H.start)))=true:=by kernel_rfl
theorem bqz:(CL.all fun c=>OL.all fun r=>axS (hasC c r) (run Tryz.prog gT quiet 2000 (.call 181 [.str c,.str [r]] H.start)))=true:=by kernel_rfl
def F181:List EVal→Option EVal
 | [.str c,.str [r]]=>if(c∈CL∧r∈OL)∨(c=EL∧r<256)then some (.bool (hasC c r))else none
 | _=>none
theorem fn181:FnT 181 F181:=by
 refine bqN (n:=2000) fun a u h=>?_
 unfold F181 at h
 split at h
 rotate_left
 · cases h
 rename_i c r
 split at h
 rotate_left
 · cases h
 rename_i hx
 cases h
 rcases hx with hx|⟨rfl,hx⟩
 · exact⟨_,rfl,List.all_eq_true.1 (List.all_eq_true.1 bqz c hx.1) r hx.2⟩
 · exact⟨_,rfl,List.all_eq_true.1 con_ev r (List.mem_range.2 hx)⟩
def azp:Row (List Nat×List Nat×Unit):=Row.cons cS (Row.cons cS Row.nil)
def y9 (x:List Nat×List Nat×Unit):Option Bool:=match x.2.1 with
 | [r]=>if(x.1∈CL∧r∈OL)∨(x.1=EL∧r<256)then some (hasC x.1 r)else none
 | _=>none
def K181:Con Tryz.prog gT:=Con.of 181 azp cB y9 (Fn.weak fn181 fun a v h=>by
 obtain⟨⟨c,t,_⟩,r,rfl,hs,rfl⟩:=yB h
 have e:V.cs (azp.v (c,t,()))=[.str c,.str t]:=by
  show V.cs [V.str c,V.str t]=_
  simp only [V.cs,V.c]
 rw [e]
 unfold y9 at hs
 split at hs
 · rename_i r' ht
   dsimp only at ht hs
   subst ht
   split at hs
   · rename_i hx
     cases hs
     simp only [F181,if_pos hx,cB,V.c]
   · cases hs
 · cases hs)
end
end Go.Ev
namespace Go.Ev
open Go.RowKit Go.Proofs
set_option maxRecDepth 100000
set_option maxHeartbeats 4000000
set_option linter.unusedVariables false
noncomputable section
noncomputable def Af231:=(Row.cons (ayK .i32) Row.nil)
noncomputable def Tf231 (s:Int):Tr Bool Empty noS cB.v:=(.i (decide (0≤s)) (.i (decide (s<55296)) (.r true) (.i (decide (57343<s)) (.i (decide (s≤1114111)) (.r true) (.r false)) (.r false))) (.i (decide (57343<s)) (.i (decide (s≤1114111)) (.r true) (.r false)) (.r false)))
noncomputable def Ef231 (s:Int):=(Tf231 s).d noE
noncomputable def bje (x:Int×Unit):=Ef231 x.1
noncomputable def wf231:Wk (Int×Unit) Bool Empty cB.v:=wk0 fun x=>Tf231 x.1
noncomputable def Kf231:=aS 231 Tryz.func231 [] noZ ⟨17,noL,noL,noL⟩ 128 Af231 cB bje wf231 (fun _=>0)
noncomputable def Af214:=(Row.cons cS (Row.cons (ayK .i32) Row.nil))
inductive ax8 where
 | k76 (x4:Nat)
 | k10
 | k24 (x6:Int) (x7:Int)
noncomputable def uf214:ax8→Nat
 | .k76 _=>76
 | .k10=>10
 | .k24 _ _=>24
noncomputable def akf (s:List Nat) (t:Int):ax8→D
 | .k76 x4=>mD [(175,.ptr 0 0)] 1 [(0,.iter s x4)] 128 []
 | .k10=>mD [(0,.str s),(7,.str (bY t)),(8,.int .i64 (w6 ((((bY t).length:Nat):Int)-1))),(9,.int .i64 (w6 ((((bY t).length:Nat):Int)-1)))] 0 [] 128 []
 | .k24 x6 x7=>mD [(0,.str s),(7,.str (bY t)),(8,.int .i64 (w6 ((((bY t).length:Nat):Int)-1))),(9,.int .i64 x6),(12,.int .i64 x7)] 0 [] 128 []
noncomputable def azc (s:List Nat) (t:Int):(l_:ax8)→Tr Int ax8 (akf s t) cI.v
 | .k76 x4=>(.i (Nat.blt x4 s.length) (.i ((((gV s x4).1:Nat):Int)==65533) (.r ((x4:Nat):Int)) (.g (.k76 (x4+(gV s x4).2)))) (.r (-1)))
 | .k10=>(.i (decide ((w6 ((((bY t).length:Nat):Int)-1))<((s.length:Nat):Int))) (.i (inR (w6 ((((bY t).length:Nat):Int)-1)) s.length) (.i (inR (w6 ((((bY t).length:Nat):Int)-1)) ((bY t).length)) (.i (!(((s.getD (w6 ((((bY t).length:Nat):Int)-1)).toNat 0:Nat):Int)==(((bY t).getD (w6 ((((bY t).length:Nat):Int)-1)).toNat 0:Nat):Int))) (.i (decide ((0:Int)≤(w6 ((w6 ((((bY t).length:Nat):Int)-1))+1)))&&decide ((w6 ((w6 ((((bY t).length:Nat):Int)-1))+1))≤((s.length:Nat):Int))) (.i (inR (w6 ((((bY t).length:Nat):Int)-1)) ((bY t).length)) (.c A230 S230 (((s.take s.length).drop ((w6 ((w6 ((((bY t).length:Nat):Int)-1))+1)).toNat)),(((bY t).getD (w6 ((((bY t).length:Nat):Int)-1)).toNat 0:Nat):Int),()) fun r14=>(.i (decide (r14<0)) (.r (-1)) (.g (.k24 (w6 ((w6 ((((bY t).length:Nat):Int)-1))+(w6 (r14+1)))) 1)))) .n) .n) (.g (.k24 (w6 ((((bY t).length:Nat):Int)-1)) 1))) .n) .n) (.r (-1)))
 | .k24 x6 x7=>(.i (decide (x7<(((bY t).length:Nat):Int))) (.i (inR (w6 (x6-x7)) s.length) (.i (inR (w6 ((w6 ((((bY t).length:Nat):Int)-1))-x7)) ((bY t).length)) (.i (!(((s.getD (w6 (x6-x7)).toNat 0:Nat):Int)==(((bY t).getD (w6 ((w6 ((((bY t).length:Nat):Int)-1))-x7)).toNat 0:Nat):Int))) .n (.g (.k24 x6 (w6 (x7+1))))) .n) .n) (.r (w6 (x6-(w6 ((((bY t).length:Nat):Int)-1))))))
noncomputable def Tf214 (s:List Nat) (t:Int):Tr Int ax8 (akf s t) cI.v:=(.i (decide (0≤t)) (.i (decide (t<128)) (.c A230 S230 (s,(IntKind.u8.wrap t),()) fun r11=>(.r r11)) (.i (t==65533) (.g (.k76 0)) (.c Af231 bje (t,()) fun r12=>(.i (!r12) (.r (-1)) (.g .k10))))) (.i (t==65533) (.g (.k76 0)) (.c Af231 bje (t,()) fun r13=>(.i (!r13) (.r (-1)) (.g .k10)))))
noncomputable def wR (s:List Nat) (t:Int):=Tr.lp (azc s t)
theorem bjt {s:List Nat}{t:Int}{n:Nat}{l_:ax8}:wR s t (n+1) l_=(azc s t l_).d (wR s t n):=rfl
noncomputable def Ef214 (n:Nat) (s:List Nat) (t:Int):=(Tf214 s t).d (wR s t n)
noncomputable def Sf214 (x:(List Nat)×Int×Unit):=Ef214 (x.1.length+64) x.1 x.2.1
noncomputable def wf214:Wk ((List Nat)×Int×Unit) Int ax8 cI.v:=⟨fun x=>akf x.1 x.2.1,uf214,fun x=>Tf214 x.1 x.2.1,fun x=>azc x.1 x.2.1⟩
noncomputable def Kf214:=aS 214 Tryz.func214 [K230,Kf231] noZ ⟨187,(lookA [(38,⟨[175],[0],1,[],[],[],[]⟩),(5,⟨[0,7,8,9],[],0,[],[],[],[]⟩),(12,⟨[0,7,8,9,12],[],0,[],[],[],[]⟩)]),noL,noL⟩ 128 Af214 cI Sf214 wf214 (fun x=>x.1.length+64)
noncomputable def Af190:=(Row.cons cS (Row.cons (ayK .i32) Row.nil))
noncomputable def Tf190 (s:List Nat) (t:Int):Tr Bool Empty noS cB.v:=(.c Af214 Sf214 (s,t,()) fun r2=>(.r (decide (0≤r2))))
noncomputable def Ef190 (s:List Nat) (t:Int):=(Tf190 s t).d noE
noncomputable def bjg (x:(List Nat)×Int×Unit):=Ef190 x.1 x.2.1
noncomputable def wf190:Wk ((List Nat)×Int×Unit) Bool Empty cB.v:=wk0 fun x=>Tf190 x.1 x.2.1
noncomputable def Kf190:=aS 190 Tryz.func190 [Kf214] noZ ⟨9,noL,noL,noL⟩ 128 Af190 cB bjg wf190 (fun _=>0)
noncomputable def Af137:=(Row.cons (ayK .i32) Row.nil)
noncomputable def Tf137 (s:Int):Tr Bool Empty noS cB.v:=(.c Af190 bjg ([66,67,83,70,88,72],s,()) fun r2=>(.r r2))
noncomputable def Ef137 (s:Int):=(Tf137 s).d noE
noncomputable def Sf137 (x:Int×Unit):=Ef137 x.1
noncomputable def wf137:Wk (Int×Unit) Bool Empty cB.v:=wk0 fun x=>Tf137 x.1
noncomputable def Kf137:=aS 137 Tryz.func137 [Kf190] noZ ⟨5,noL,noL,noL⟩ 128 Af137 cB Sf137 wf137 (fun _=>0)
noncomputable def Af87:=(Row.cons (Cod.list mv0 rMv) Row.nil)
noncomputable def Wf87 (r:(List (Mv))):V:=.el (r.map rMv.v)
theorem hWf87 (r:(List (Mv))):(Wf87 r).c=((Cod.list mv0 rMv).v r).c:=by
 first|rfl|exact bO|(show EVal.tup (V.cs _)=EVal.tup (V.cs _);simp only [V.cs_map,List.map_cons,List.map_nil,bO];rfl)
inductive Lf87 where
 | k6 (x1:Int) (x2:List (Mv))
noncomputable def uf87:Lf87→Nat
 | .k6 _ _=>6
noncomputable def akO (s:List (Mv)) (x1:Int) (x2:List (List V)):D:=mD [(0,(Cod.list mv0 rMv).v s),(3,.gl 0),(4,.int .i64 x1)] 0 [] 1 [(0,(x2,106))]
noncomputable def bqL (s:List (Mv)):Lf87→D
 | .k6 x1 x2=>akO s x1 (x2.map rMv.v)
noncomputable def ay0 (s:List (Mv)):(l_:Lf87)→Tr (List (Mv)) Lf87 (bqL s) Wf87
 | .k6 x1 x2=>(.i (decide (x1<((s.length:Nat):Int))) (.i (inR x1 s.length) (.i (Nat.ble (8*((s.getD x1.toNat mv0).b).length) 1000000) (.i (Nat.ble (64*(((x2.map rMv.v)).length+1)) 1000000) (.j (.k6 (w6 (x1+1)) (x2++[(s.getD x1.toNat mv0)])) (akO s (w6 (x1+1)) ((x2.map rMv.v)++[[.int .i64 (s.getD x1.toNat mv0).f,.int .i64 (s.getD x1.toNat mv0).t,.bool ((s.getD x1.toNat mv0).o),.str ((s.getD x1.toNat mv0).h),(Cod.list 0 aJ).v ((s.getD x1.toNat mv0).b)]])) ⟨by simp only [bqL,List.map_append,List.map_cons,List.map_nil];rfl⟩) .n) .n) .n) (.r x2))
noncomputable def Tf87 (s:List (Mv)):Tr (List (Mv)) Lf87 (bqL s) Wf87:=(.g (.k6 0 []))
noncomputable def bjs (s:List (Mv)):=Tr.lp (ay0 s)
theorem ayq {s:List (Mv)}{n:Nat}{l_:Lf87}:bjs s (n+1) l_=(ay0 s l_).d (bjs s n):=rfl
noncomputable def Ef87 (n:Nat) (s:List (Mv)):=(Tf87 s).d (bjs s n)
noncomputable def Sf87 (x:(List (Mv))×Unit):=Ef87 (x.1.length+64) x.1
noncomputable def wf87:Wk ((List (Mv))×Unit) (List (Mv)) Lf87 Wf87:=⟨fun x=>bqL x.1,uf87,fun x=>Tf87 x.1,fun x=>ay0 x.1⟩
noncomputable def Kf87:=aS 87 Tryz.func87 [] noZ ⟨26,(lookA [(3,⟨[0,3,4],[],0,[(3,106)],[0],[],[]⟩)]),noL,noL⟩ 0 Af87 (Cod.list mv0 rMv) Sf87 wf87 (fun x=>x.1.length+64) hWf87
noncomputable def Af33:=(Row.cons (Cod.agg rPl) Row.nil)
noncomputable def Tf33 (s:Pl):Tr Pl Empty noS (Cod.agg rPl).v:=(.c Af87 Sf87 (s.m,()) fun r2=>(.r (⟨s.p,s.e,s.l,r2⟩:Pl)))
noncomputable def Ef33 (s:Pl):=(Tf33 s).d noE
noncomputable def Sf33 (x:Pl×Unit):=Ef33 x.1
noncomputable def wf33:Wk (Pl×Unit) Pl Empty (Cod.agg rPl).v:=wk0 fun x=>Tf33 x.1
noncomputable def Kf33:=aS 33 Tryz.func33 [Kf87] noZ ⟨8,noL,noL,noL⟩ 128 Af33 (Cod.agg rPl) Sf33 wf33 (fun _=>0)
end
end Go.Ev
