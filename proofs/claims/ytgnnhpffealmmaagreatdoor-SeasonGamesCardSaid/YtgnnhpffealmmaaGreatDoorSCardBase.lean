import Derived.Test.YtgnnhpffealmmaaGreatDoorEvE
import Derived.Test.YtgnnhpffealmmaaGreatDoorCards
import Derived.Test.YtgnnhpffealmmaaGreatDoorTie
import Derived.Test.YtgnnhpffealmmaaGreatDoorSgB
set_option linter.unusedSimpArgs false
set_option linter.unusedVariables false
namespace Go.Proofs.YtgnnhpffealmmaaGreatDoor.base
open Go.ChangeShapes Go.WideShapes Go.ChangeAt Go.RowKit Go.Lib Go.Ev Go.Joins Go.Deep
theorem own:ownKnob Tryz.prog.godebug=none:=by kernel_rfl
set_option maxRecDepth 100000 in
theorem aqL:laidOutB Tryz.prog=true:=by kernel_rfl
noncomputable def nO (os:Os):World:=
 { World.holding Tryz.prog os ⟨#[],#[],[]⟩with heap:=layH [(3,Rows.laid_math_bits_deBruijn32tab),(4,Rows.laid_math_bits_deBruijn64tab),(1,Rows.laid_internal_strconv_uint64pow10),(0,Rows.laid_dugout_season_kinds)] (World.holding Tryz.prog os ⟨#[],#[],[]⟩).heap }
theorem gLaid {W:World}(hL:laidMet Tryz.prog Rows.seasonGamesRow.laid W):GRel W.heap.size W gT:=
 GRel.of_laid gKinds yE aqM (gQ (gQ (gQ hL)))
theorem hG {l:List Nat}(h:xQ .s (.str l)):dE l=true:=by
 cases h with
 | s x _=>
   unfold dE
   rw [List.all_eq_true]
   intro c hc
   simp only [List.mem_map]at hc
   obtain⟨a,_,rfl⟩:=hc
   exact decide_eq_true a.toNat_lt
theorem lnY {x:Ln}(h:Suits [.s,.s,.i .i64,.i .i64,.i .i64,.i .i64,.i .i64,.i .i64,.i .i64,.i .i64,.i .i64,.i .i64,.i .i64,.i .i64] (V.cs (rLn.v x))):dE x.p=true:=by
 have h':Suits [.s,.s,.i .i64,.i .i64,.i .i64,.i .i64,.i .i64,.i .i64,.i .i64,.i .i64,.i .i64,.i .i64,.i .i64,.i .i64] (.str x.p::V.cs [V.str x.t,V.int .i64 x.c0,V.int .i64 x.c1,V.int .i64 x.c2,V.int .i64 x.c3,V.int .i64 x.c4,V.int .i64 x.c5,V.int .i64 x.c6,V.int .i64 x.c7,V.int .i64 x.c8,V.int .i64 x.c9,V.int .i64 x.c10,V.int .i64 x.c11]):=h
 cases h' with|cons _ _ _ _ h0 h=>exact hG h0
theorem lnsR:∀ {l:List Ln},SuitR [.s,.s,.i .i64,.i .i64,.i .i64,.i .i64,.i .i64,.i .i64,.i .i64,.i .i64,.i .i64,.i .i64,.i .i64,.i .i64] (V.css (l.map rLn.v))→∀x∈l,dE x.p=true
 | [],_,x,hx=>by cases hx
 | y :: l,h,x,hx=>by
   have h:SuitR [.s,.s,.i .i64,.i .i64,.i .i64,.i .i64,.i .i64,.i .i64,.i .i64,.i .i64,.i .i64,.i .i64,.i .i64,.i .i64] (V.cs (rLn.v y)::V.css (l.map rLn.v)):=h
   cases h with
   | cons _ _ _ hs hr=>
     rcases List.mem_cons.1 hx with rfl|hx
     · exact lnY hs
     · exact lnsR hr x hx
theorem lnsY {l:List Ln}(h:xQ (.l [.s,.s,.i .i64,.i .i64,.i .i64,.i .i64,.i .i64,.i .i64,.i .i64,.i .i64,.i .i64,.i .i64,.i .i64,.i .i64]) ((Cod.list ln0 rLn).v l).c):∀x∈l,dE x.p=true:=by
 have e:((Cod.list ln0 rLn).v l).c=.lsl (V.css (l.map rLn.v)):=(fD (d:=ln0) (A:=rLn) (hk:=rfl) (l:=l)).symm.trans (by rw [V.c])
 have h2:xQ (.l [.s,.s,.i .i64,.i .i64,.i .i64,.i .i64,.i .i64,.i .i64,.i .i64,.i .i64,.i .i64,.i .i64,.i .i64,.i .i64]) (.lsl (V.css (l.map rLn.v))):=cast (congrArg (xQ _) e) h
 cases h2 with
 | l _ _ _ hr=>exact lnsR hr
theorem gmY {g:Gm}(h:Suits [.s,.i .i64,.i .i64,.s,.s,.i .i64,.i .i64,.l [.s,.s,.i .i64,.i .i64,.i .i64,.i .i64,.i .i64,.i .i64,.i .i64,.i .i64,.i .i64,.i .i64,.i .i64,.i .i64]] (V.cs (rGm.v g))):ByG g:=by
 have h':Suits [.s,.i .i64,.i .i64,.s,.s,.i .i64,.i .i64,.l [.s,.s,.i .i64,.i .i64,.i .i64,.i .i64,.i .i64,.i .i64,.i .i64,.i .i64,.i .i64,.i .i64,.i .i64,.i .i64]] [.str g.n,.int .i64 g.v,.int .i64 g.d,.str g.t0,.str g.t1,.int .i64 g.s0,.int .i64 g.s1,((Cod.list ln0 rLn).v g.l).c]:=h
 cases h' with|cons _ _ _ _ h0 h=>
 cases h with|cons _ _ _ _ h1 h=>
 cases h with|cons _ _ _ _ h2 h=>
 cases h with|cons _ _ _ _ h3 h=>
 cases h with|cons _ _ _ _ h4 h=>
 cases h with|cons _ _ _ _ h5 h=>
 cases h with|cons _ _ _ _ h6 h=>
 cases h with|cons _ _ _ _ h7 h=>
 exact⟨hG h0,hG h3,hG h4,lnsY h7⟩
theorem gmsR:∀ {l:List Gm},SuitR [.s,.i .i64,.i .i64,.s,.s,.i .i64,.i .i64,.l [.s,.s,.i .i64,.i .i64,.i .i64,.i .i64,.i .i64,.i .i64,.i .i64,.i .i64,.i .i64,.i .i64,.i .i64,.i .i64]] (V.css (l.map rGm.v))→∀x∈l,ByG x
 | [],_,x,hx=>by cases hx
 | y :: l,h,x,hx=>by
   have h:SuitR [.s,.i .i64,.i .i64,.s,.s,.i .i64,.i .i64,.l [.s,.s,.i .i64,.i .i64,.i .i64,.i .i64,.i .i64,.i .i64,.i .i64,.i .i64,.i .i64,.i .i64,.i .i64,.i .i64]] (V.cs (rGm.v y)::V.css (l.map rGm.v)):=h
   cases h with
   | cons _ _ _ hs hr=>
     rcases List.mem_cons.1 hx with rfl|hx
     · exact gmY hs
     · exact gmsR hr x hx
theorem gmsY {l:List Gm}(h:xQ (.l [.s,.i .i64,.i .i64,.s,.s,.i .i64,.i .i64,.l [.s,.s,.i .i64,.i .i64,.i .i64,.i .i64,.i .i64,.i .i64,.i .i64,.i .i64,.i .i64,.i .i64,.i .i64,.i .i64]]) ((Cod.list gm0 rGm).v l).c):∀x∈l,ByG x:=by
 have e:((Cod.list gm0 rGm).v l).c=.lsl (V.css (l.map rGm.v)):=(fD (d:=gm0) (A:=rGm) (hk:=rfl) (l:=l)).symm.trans (by rw [V.c])
 have h2:xQ (.l [.s,.i .i64,.i .i64,.s,.s,.i .i64,.i .i64,.l [.s,.s,.i .i64,.i .i64,.i .i64,.i .i64,.i .i64,.i .i64,.i .i64,.i .i64,.i .i64,.i .i64,.i .i64,.i .i64]]) (.lsl (V.css (l.map rGm.v))):=cast (congrArg (xQ _) e) h
 cases h2 with
 | l _ _ _ hr=>exact gmsR hr
end Go.Proofs.YtgnnhpffealmmaaGreatDoor.base
