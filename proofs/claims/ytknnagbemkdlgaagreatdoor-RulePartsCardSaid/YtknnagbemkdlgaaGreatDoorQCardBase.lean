import Derived.Test.YtknnagbemkdlgaaGreatDoorEvD
import Derived.Test.YtknnagbemkdlgaaGreatDoorCards
import Derived.Test.YtknnagbemkdlgaaGreatDoorTie
import Derived.Test.YtknnagbemkdlgaaGreatDoorDHand
set_option linter.unusedSimpArgs false
set_option linter.unusedVariables false
namespace Go.Proofs.YtknnagbemkdlgaaGreatDoor.base
open Go.ChangeShapes Go.WideShapes Go.ChangeAt Go.RowKit Go.Lib Go.Ev Go.Joins Go.Deep
theorem own:ownKnob Tryz.prog.godebug=none:=by kernel_rfl
set_option maxRecDepth 100000 in
theorem zW:laidOutB Tryz.prog=true:=by kernel_rfl
noncomputable def qC (os:Os):World:=
 { World.holding Tryz.prog os ⟨#[],#[],[]⟩with heap:=layH [(3,Rows.laid_math_bits_deBruijn32tab),(4,Rows.laid_math_bits_deBruijn64tab),(1,Rows.laid_internal_strconv_uint64pow10),(2,Rows.laid_dugout_play_ways)] (World.holding Tryz.prog os ⟨#[],#[],[]⟩).heap }
theorem gLaid {W:World}(hL:laidMet Tryz.prog Rows.rulePartsRow.laid W):GRel W.heap.size W gT:=
 GRel.of_laid gWays avI akn (iY (iY (iY hL)))
theorem sQ {l:List Nat}(h:axl .s (.str l)):aW l=true:=by
 cases h with
 | s x _=>
   unfold aW
   rw [List.all_eq_true]
   intro c hc
   simp only [List.mem_map]at hc
   obtain⟨a,_,rfl⟩:=hc
   exact decide_eq_true a.toNat_lt
theorem plY {x:Pl}(h:Suits [.s,.s,.b,.l [.i .i64,.i .i64,.b,.s,.l [.i .i64]]] (V.cs (rPl.v x))):aW x.p=true∧aW x.e=true:=by
 have h':Suits [.s,.s,.b,.l [.i .i64,.i .i64,.b,.s,.l [.i .i64]]] [.str x.p,.str x.e,.bool x.l,((Cod.list mv0 rMv).v x.m).c]:=h
 cases h' with|cons _ _ _ _ h0 h=>
 cases h with|cons _ _ _ _ h1 h=>
 exact⟨sQ h0,sQ h1⟩
theorem plsR:∀ {l:List Pl},SuitR [.s,.s,.b,.l [.i .i64,.i .i64,.b,.s,.l [.i .i64]]] (V.css (l.map rPl.v))→∀t∈l,aW t.p=true∧aW t.e=true
 | [],_,x,hx=>by cases hx
 | y :: l,h,x,hx=>by
   have h:SuitR [.s,.s,.b,.l [.i .i64,.i .i64,.b,.s,.l [.i .i64]]] (V.cs (rPl.v y)::V.css (l.map rPl.v)):=h
   cases h with
   | cons _ _ _ hs hr=>
     rcases List.mem_cons.1 hx with rfl|hx
     · exact plY hs
     · exact plsR hr x hx
theorem plsY {l:List Pl}(h:axl (.l [.s,.s,.b,.l [.i .i64,.i .i64,.b,.s,.l [.i .i64]]]) ((Cod.list pl0 rPl).v l).c):∀t∈l,aW t.p=true∧aW t.e=true:=by
 have e:((Cod.list pl0 rPl).v l).c=.lsl (V.css (l.map rPl.v)):=(b5 (d:=pl0) (A:=rPl) (hk:=rfl) (l:=l)).symm.trans (by rw [V.c])
 have h2:axl (.l [.s,.s,.b,.l [.i .i64,.i .i64,.b,.s,.l [.i .i64]]]) (.lsl (V.css (l.map rPl.v))):=cast (congrArg (axl _) e) h
 cases h2 with
 | l _ _ _ hr=>exact plsR hr
theorem suit_u8 {n:Int}(h:axl (.i .u8) (.int .u8 n)):0≤n∧n<256:=by
 cases h with
 | i _ _ hw=>
   have h2:IntKind.u8.min≤n∧n≤IntKind.u8.max:=by simpa [Lit.wf]using hw
   have e1:IntKind.u8.min=0:=rfl
   have e2:IntKind.u8.max=255:=rfl
   omega
end Go.Proofs.YtknnagbemkdlgaaGreatDoor.base
