import Derived.Test.YtfhbflaighfmpaaGreatDoorEvD
import Derived.Test.YtfhbflaighfmpaaGreatDoorCards
import Derived.Test.YtfhbflaighfmpaaGreatDoorTie
import Derived.Test.YtfhbflaighfmpaaGreatDoorDHand
set_option linter.unusedSimpArgs false
set_option linter.unusedVariables false
namespace Go.Proofs.YtfhbflaighfmpaaGreatDoor.base
open Go.ChangeShapes Go.WideShapes Go.ChangeAt Go.RowKit Go.Lib Go.Ev Go.Joins Go.Deep
theorem own:ownKnob Tryz.prog.godebug=none:=by kernel_rfl
set_option maxRecDepth 100000 in
theorem laidOut:laidOutB Tryz.prog=true:=by kernel_rfl
noncomputable def tH (os:Os):World:={ World.holding Tryz.prog os ⟨#[],#[],[]⟩with heap:=layH [(2,Rows.laid_math_bits_deBruijn32tab),(3,Rows.laid_math_bits_deBruijn64tab),(1,Rows.laid_internal_strconv_uint64pow10),(4,Rows.laid_dugout_play_ways)] (World.holding Tryz.prog os ⟨#[],#[],[]⟩).heap }
theorem gLaid {W:World}(hL:laidMet Tryz.prog Rows.ruleHalvesRow.laid W):GRel W.heap.size W gT:=GRel.of_laid gWays awi bq4 (kO (kO (kO hL)))
theorem vY {l:List Nat}(h:ayw .s (.str l)):bB l=true:=by
 cases h with
 | s x _=>unfold bB;rw [List.all_eq_true];intro c hc;simp only [List.mem_map]at hc;obtain⟨a,_,rfl⟩:=hc;exact decide_eq_true a.toNat_lt
theorem plY {x:Pl}(h:Suits [.s,.s,.b,.l [.i .i64,.i .i64,.b,.s,.l [.i .i64]]] (V.cs (rPl.v x))):bB x.p=true∧bB x.e=true:=by
 have h':Suits [.s,.s,.b,.l [.i .i64,.i .i64,.b,.s,.l [.i .i64]]] [.str x.p,.str x.e,.bool x.l,((Cod.list mv0 rMv).v x.m).c]:=h;cases h' with|cons _ _ _ _ h0 h=>
 cases h with|cons _ _ _ _ h1 h=>
 exact⟨vY h0,vY h1⟩
theorem plsR:∀ {l:List Pl},SuitR [.s,.s,.b,.l [.i .i64,.i .i64,.b,.s,.l [.i .i64]]] (V.css (l.map rPl.v))→∀t∈l,bB t.p=true∧bB t.e=true
 | [],_,x,hx=>by cases hx
 | y :: l,h,x,hx=>by
   have h:SuitR [.s,.s,.b,.l [.i .i64,.i .i64,.b,.s,.l [.i .i64]]] (V.cs (rPl.v y)::V.css (l.map rPl.v)):=h;cases h with
   | cons _ _ _ hs hr=>
     rcases List.mem_cons.1 hx with rfl|hx;· exact plY hs
     · exact plsR hr x hx
theorem plsY {l:List Pl}(h:ayw (.l [.s,.s,.b,.l [.i .i64,.i .i64,.b,.s,.l [.i .i64]]]) ((Cod.list pl0 rPl).v l).c):∀t∈l,bB t.p=true∧bB t.e=true:=by
 have e:((Cod.list pl0 rPl).v l).c=.lsl (V.css (l.map rPl.v)):=(aS (d:=pl0) (A:=rPl) (hk:=rfl) (l:=l)).symm.trans (by rw [V.c]);have h2:ayw (.l [.s,.s,.b,.l [.i .i64,.i .i64,.b,.s,.l [.i .i64]]]) (.lsl (V.css (l.map rPl.v))):=cast (congrArg (ayw _) e) h;cases h2 with
 | l _ _ _ hr=>exact plsR hr
end Go.Proofs.YtfhbflaighfmpaaGreatDoor.base
