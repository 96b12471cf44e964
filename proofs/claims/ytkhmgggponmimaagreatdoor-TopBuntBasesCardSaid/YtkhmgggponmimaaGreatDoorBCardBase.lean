import Derived.Test.YtkhmgggponmimaaGreatDoorEvE
import Derived.Test.YtkhmgggponmimaaGreatDoorCards
import Derived.Test.YtkhmgggponmimaaGreatDoorTie
import Derived.Test.YtkhmgggponmimaaGreatDoorDHand
set_option linter.unusedSimpArgs false
set_option linter.unusedVariables false
namespace Go.Proofs.YtkhmgggponmimaaGreatDoor.base
open Go.ChangeShapes Go.WideShapes Go.ChangeAt Go.RowKit Go.Lib Go.Ev Go.Joins Go.Deep
theorem own:ownKnob Tryz.prog.godebug=none:=by kernel_rfl
set_option maxRecDepth 100000 in
theorem laidOut:laidOutB Tryz.prog=true:=by kernel_rfl
noncomputable def qU (os:Os):World:=
 { World.holding Tryz.prog os ⟨#[],#[],[]⟩with heap:=layH [(3,Rows.laid_math_bits_deBruijn32tab),(4,Rows.laid_math_bits_deBruijn64tab),(1,Rows.laid_internal_strconv_uint64pow10),(2,Rows.laid_dugout_play_ways)] (World.holding Tryz.prog os ⟨#[],#[],[]⟩).heap }
theorem gLaid {W:World}(hL:laidMet Tryz.prog Rows.topBuntBasesRow.laid W):GRel W.heap.size W gT:=
 GRel.of_laid gWays avn aw1 (jB (jB (jB hL)))
theorem tC {l:List Nat}(h:awD .s (.str l)):aS l=true:=by
 cases h with
 | s x _=>
   unfold aS
   rw [List.all_eq_true]
   intro c hc
   simp only [List.mem_map]at hc
   obtain⟨a,_,rfl⟩:=hc
   exact decide_eq_true a.toNat_lt
theorem plY {x:Pl}(h:Suits [.s,.s,.b,.l [.i .i64,.i .i64,.b,.s,.l [.i .i64]]] (V.cs (rPl.v x))):aS x.p=true∧aS x.e=true:=by
 have h':Suits [.s,.s,.b,.l [.i .i64,.i .i64,.b,.s,.l [.i .i64]]] [.str x.p,.str x.e,.bool x.l,((Cod.list mv0 rMv).v x.m).c]:=h
 cases h' with|cons _ _ _ _ h0 h=>
 cases h with|cons _ _ _ _ h1 h=>
 exact⟨tC h0,tC h1⟩
theorem plsR:∀ {l:List Pl},SuitR [.s,.s,.b,.l [.i .i64,.i .i64,.b,.s,.l [.i .i64]]] (V.css (l.map rPl.v))→∀t∈l,aS t.p=true∧aS t.e=true
 | [],_,x,hx=>by cases hx
 | y :: l,h,x,hx=>by
   have h:SuitR [.s,.s,.b,.l [.i .i64,.i .i64,.b,.s,.l [.i .i64]]] (V.cs (rPl.v y)::V.css (l.map rPl.v)):=h
   cases h with
   | cons _ _ _ hs hr=>
     rcases List.mem_cons.1 hx with rfl|hx
     · exact plY hs
     · exact plsR hr x hx
theorem plsY {l:List Pl}(h:awD (.l [.s,.s,.b,.l [.i .i64,.i .i64,.b,.s,.l [.i .i64]]]) ((Cod.list pl0 rPl).v l).c):∀t∈l,aS t.p=true∧aS t.e=true:=by
 have e:((Cod.list pl0 rPl).v l).c=.lsl (V.css (l.map rPl.v)):=(aR (d:=pl0) (A:=rPl) (hk:=rfl) (l:=l)).symm.trans (by rw [V.c])
 have h2:awD (.l [.s,.s,.b,.l [.i .i64,.i .i64,.b,.s,.l [.i .i64]]]) (.lsl (V.css (l.map rPl.v))):=cast (congrArg (awD _) e) h
 cases h2 with
 | l _ _ _ hr=>exact plsR hr
end Go.Proofs.YtkhmgggponmimaaGreatDoor.base
