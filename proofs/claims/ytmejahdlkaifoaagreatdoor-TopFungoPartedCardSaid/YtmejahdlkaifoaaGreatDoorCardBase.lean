import Derived.Test.YtmejahdlkaifoaaGreatDoorEvD
import Derived.Test.YtmejahdlkaifoaaGreatDoorCards
import Derived.Test.YtmejahdlkaifoaaGreatDoorTie
import Derived.Test.YtmejahdlkaifoaaGreatDoorDTC
set_option linter.unusedSimpArgs false
set_option linter.unusedVariables false
namespace Go.Proofs.YtmejahdlkaifoaaGreatDoor.base
open Go.ChangeShapes Go.WideShapes Go.ChangeAt Go.RowKit Go.Lib Go.Ev Go.Joins Go.Deep
theorem own:ownKnob Tryz.prog.godebug=none:=by kernel_rfl
set_option maxRecDepth 100000 in
theorem aqy:laidOutB Tryz.prog=true:=by kernel_rfl
noncomputable def rC (os:Os):World:=
 { World.holding Tryz.prog os ⟨#[],#[],[]⟩with heap:=layH [(3,Rows.laid_math_bits_deBruijn32tab),(4,Rows.laid_math_bits_deBruijn64tab),(1,Rows.laid_internal_strconv_uint64pow10),(2,Rows.laid_dugout_play_ways)] (World.holding Tryz.prog os ⟨#[],#[],[]⟩).heap }
theorem gLaid {W:World}(hL:laidMet Tryz.prog Rows.topFungoPartedRow.laid W):GRel W.heap.size W gT:=
 GRel.of_laid gWays aka ayK (i6 (i6 (i6 hL)))
theorem tZ {l:List Nat}(h:bqf .s (.str l)):aW l=true:=by
 cases h with
 | s x _=>
   unfold aW
   rw [List.all_eq_true]
   intro c hc
   simp only [List.mem_map]at hc
   obtain⟨a,_,rfl⟩:=hc
   exact decide_eq_true a.toNat_lt
theorem plY {x:Pl}(h:Suits [.s,.s,.b,.l [.i .i64,.i .i64,.b,.s,.l [.i .i64]]] (V.cs (rPl.v x))):aW x.p=true∧aW x.e=true:=by
 have h':Suits [.s,.s,.b,.l [.i .i64,.i .i64,.b,.s,.l [.i .i64]]] [.str x.p,.str x.e,.bool x.l,((Cod.list mv0 rMv).v x.m).c]:=h
 cases h' with|cons _ _ _ _ h0 h=>
 cases h with|cons _ _ _ _ h1 h=>
 exact⟨tZ h0,tZ h1⟩
theorem suit_u8 {n:Int}(h:bqf (.i .u8) (.int .u8 n)):0≤n∧n<256:=by
 cases h with
 | i _ _ hw=>
   have h2:IntKind.u8.min≤n∧n≤IntKind.u8.max:=by simpa [Lit.wf]using hw
   have e1:IntKind.u8.min=0:=rfl
   have e2:IntKind.u8.max=255:=rfl
   omega
end Go.Proofs.YtmejahdlkaifoaaGreatDoor.base
