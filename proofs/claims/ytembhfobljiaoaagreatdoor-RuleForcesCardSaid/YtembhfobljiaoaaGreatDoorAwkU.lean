import Derived.Test.YtembhfobljiaoaaGreatDoorEvD
import Derived.Test.YtembhfobljiaoaaGreatDoorBase
set_option linter.unusedSimpArgs false
set_option linter.unusedVariables false
namespace Go.Ev
open Go.RowKit Go.Proofs
set_option maxRecDepth 100000
set_option maxHeartbeats 4000000
namespace AW
noncomputable def s0:EVal:=.agg [.int .i64 1,.int .i64 0,.int .i64 0,.int .i64 0,.int .i64 0,.int .i64 0,.int .i64 0,.int .i64 0,.int .i64 1,.int .i64 1,.int .i64 0,.int .i64 0,.bool false]
noncomputable def s1:EVal:=.agg [.int .i64 1,.int .i64 0,.int .i64 0,.int .i64 0,.int .i64 0,.int .i64 1,.int .i64 0,.int .i64 0,.int .i64 2,.int .i64 1,.int .i64 0,.int .i64 0,.bool false]
noncomputable def s2:EVal:=.agg [.int .i64 1,.int .i64 0,.int .i64 0,.int .i64 0,.int .i64 1,.int .i64 1,.int .i64 0,.int .i64 0,.int .i64 2,.int .i64 1,.int .i64 0,.int .i64 0,.bool false]
noncomputable def s3:EVal:=.agg [.int .i64 1,.int .i64 0,.int .i64 0,.int .i64 3,.int .i64 0,.int .i64 2,.int .i64 1,.int .i64 0,.int .i64 3,.int .i64 1,.int .i64 0,.int .i64 0,.bool false]
noncomputable def s4:EVal:=.agg [.int .i64 3,.int .i64 1,.int .i64 2,.int .i64 1,.int .i64 2,.int .i64 0,.int .i64 0,.int .i64 1,.int .i64 5,.int .i64 2,.int .i64 0,.int .i64 1,.bool false]
noncomputable def s5:EVal:=.agg [.int .i64 9,.int .i64 1,.int .i64 1,.int .i64 0,.int .i64 0,.int .i64 0,.int .i64 0,.int .i64 1,.int .i64 5,.int .i64 2,.int .i64 3,.int .i64 3,.bool false]
noncomputable def s6:EVal:=.agg [.int .i64 1,.int .i64 0,.int .i64 1,.int .i64 0,.int .i64 0,.int .i64 0,.int .i64 1,.int .i64 0,.int .i64 2,.int .i64 1,.int .i64 0,.int .i64 0,.bool false]
noncomputable def s7:EVal:=.agg [.int .i64 1,.int .i64 0,.int .i64 2,.int .i64 0,.int .i64 0,.int .i64 0,.int .i64 1,.int .i64 0,.int .i64 2,.int .i64 1,.int .i64 0,.int .i64 0,.bool false]
noncomputable def p0:EVal:=.agg [.str [66,88],.str [88],.bool false,.lsl [[.int .i64 0,.int .i64 1,.bool false,.str [98],.lsl []]]]
noncomputable def p1:EVal:=.agg [.str [67],.str [],.bool false,.lsl []]
noncomputable def p2:EVal:=.agg [.str [88],.str [88],.bool false,.lsl [[.int .i64 1,.int .i64 2,.bool true,.str [102],.lsl [[.int .i64 6],[.int .i64 4]]],[.int .i64 0,.int .i64 1,.bool true,.str [102],.lsl [[.int .i64 4],[.int .i64 3]]]]]
noncomputable def p3:EVal:=.agg [.str [66],.str [87],.bool false,.lsl [[.int .i64 2,.int .i64 3,.bool false,.str [97],.lsl []],[.int .i64 1,.int .i64 2,.bool false,.str [97],.lsl []],[.int .i64 0,.int .i64 1,.bool false,.str [97],.lsl []]]]
noncomputable def p4:EVal:=.agg [.str [83],.str [75],.bool false,.lsl [[.int .i64 3,.int .i64 4,.bool false,.str [116],.lsl []],[.int .i64 0,.int .i64 1,.bool true,.str [107],.lsl [[.int .i64 2]]]]]
noncomputable def p5:EVal:=.agg [.str [83],.str [75],.bool false,.lsl [[.int .i64 3,.int .i64 4,.bool false,.str [112],.lsl []],[.int .i64 0,.int .i64 1,.bool false,.str [112],.lsl []]]]
noncomputable def p6:EVal:=.agg [.str [88],.str [88],.bool false,.lsl [[.int .i64 3,.int .i64 4,.bool false,.str [98],.lsl []],[.int .i64 0,.int .i64 1,.bool false,.str [98],.lsl []]]]
noncomputable def p7:EVal:=.agg [.str [66],.str [87],.bool false,.lsl [[.int .i64 2,.int .i64 3,.bool false,.str [97],.lsl []],[.int .i64 0,.int .i64 1,.bool false,.str [97],.lsl []]]]
noncomputable def p8:EVal:=.agg [.str [66],.str [],.bool false,.lsl []]
noncomputable def p9:EVal:=.agg [.str [88],.str [88],.bool true,.lsl [[.int .i64 2,.int .i64 4,.bool false,.str [98],.lsl []],[.int .i64 0,.int .i64 2,.bool true,.str [103],.lsl [[.int .i64 8],[.int .i64 4]]]]]
noncomputable def p10:EVal:=.agg [.str [88],.str [88],.bool false,.lsl [[.int .i64 2,.int .i64 4,.bool false,.str [98],.lsl []],[.int .i64 0,.int .i64 2,.bool true,.str [103],.lsl [[.int .i64 8],[.int .i64 4]]]]]
noncomputable def q0:EVal:=.agg [.int .i64 1,.int .i64 0,.int .i64 0,.int .i64 0,.int .i64 0,.int .i64 1,.int .i64 0,.int .i64 0,.int .i64 2,.int .i64 1,.int .i64 0,.int .i64 0,.bool false]
noncomputable def q1:EVal:=.agg [.int .i64 1,.int .i64 0,.int .i64 0,.int .i64 0,.int .i64 1,.int .i64 1,.int .i64 0,.int .i64 0,.int .i64 2,.int .i64 1,.int .i64 0,.int .i64 0,.bool false]
noncomputable def q2:EVal:=.agg [.int .i64 1,.int .i64 0,.int .i64 2,.int .i64 0,.int .i64 0,.int .i64 0,.int .i64 0,.int .i64 0,.int .i64 3,.int .i64 1,.int .i64 0,.int .i64 0,.bool false]
noncomputable def q3:EVal:=.agg [.int .i64 1,.int .i64 0,.int .i64 0,.int .i64 0,.int .i64 0,.int .i64 3,.int .i64 2,.int .i64 1,.int .i64 4,.int .i64 1,.int .i64 0,.int .i64 0,.bool false]
noncomputable def q4:EVal:=.agg [.int .i64 4,.int .i64 0,.int .i64 0,.int .i64 0,.int .i64 0,.int .i64 0,.int .i64 0,.int .i64 0,.int .i64 5,.int .i64 3,.int .i64 0,.int .i64 1,.bool false]
noncomputable def q5:EVal:=.agg [.int .i64 3,.int .i64 1,.int .i64 2,.int .i64 0,.int .i64 0,.int .i64 2,.int .i64 0,.int .i64 0,.int .i64 5,.int .i64 3,.int .i64 0,.int .i64 2,.bool false]
noncomputable def q6:EVal:=.agg [.int .i64 9,.int .i64 1,.int .i64 0,.int .i64 0,.int .i64 0,.int .i64 0,.int .i64 0,.int .i64 0,.int .i64 5,.int .i64 3,.int .i64 3,.int .i64 4,.bool true]
noncomputable def q7:EVal:=.agg [.int .i64 0,.int .i64 0,.int .i64 0,.int .i64 0,.int .i64 0,.int .i64 0,.int .i64 0,.int .i64 0,.int .i64 0,.int .i64 0,.int .i64 0,.int .i64 0,.bool false]
noncomputable def q8:EVal:=.agg [.int .i64 1,.int .i64 0,.int .i64 0,.int .i64 0,.int .i64 0,.int .i64 0,.int .i64 0,.int .i64 0,.int .i64 1,.int .i64 1,.int .i64 0,.int .i64 0,.bool false]
noncomputable def q9:EVal:=.str [66,88,32,88,32,48,45,49,98]
noncomputable def q10:EVal:=.str [88,32,88,32,49,120,50,102,58,54,52,32,48,120,49,102,58,52,51]
noncomputable def q11:EVal:=.str [66,32,87,32,50,45,51,97,32,49,45,50,97,32,48,45,49,97]
noncomputable def q12:EVal:=.str [83,32,75,32,51,45,52,116,32,48,120,49,107,58,50]
noncomputable def q13:EVal:=.str [83,32,75,32,51,45,52,112,32,48,45,49,112]
noncomputable def q14:EVal:=.str [88,32,88,32,51,45,52,98,32,48,45,49,98]
noncomputable def q15:EVal:=.str [66,32,87,32,50,45,51,97,32,48,45,49,97]
noncomputable def q16:EVal:=.str [88,32,88,32,108,97,116,101,32,50,45,52,98,32,48,120,50,103,58,56,52]
noncomputable def q17:EVal:=.str [88,32,88,32,50,45,52,98,32,48,120,50,103,58,56,52]
noncomputable def q18:EVal:=.str [49,116,32,48,32,48,45,48,32,48,48,48,32,49,49,32,48,58,48,32,111,110]
noncomputable def q19:EVal:=.str [49,116,32,48,32,48,45,48,32,49,48,48,32,50,49,32,48,58,48,32,111,110]
noncomputable def q20:EVal:=.str [49,116,32,48,32,48,45,49,32,49,48,48,32,50,49,32,48,58,48,32,111,110]
noncomputable def q21:EVal:=.str [49,116,32,48,32,51,45,48,32,50,49,48,32,51,49,32,48,58,48,32,111,110]
noncomputable def q22:EVal:=.str [51,98,32,50,32,49,45,50,32,48,48,49,32,53,50,32,48,58,49,32,111,110]
noncomputable def q23:EVal:=.str [57,98,32,49,32,48,45,48,32,48,48,49,32,53,50,32,51,58,51,32,111,110]
noncomputable def q24:EVal:=.str [49,116,32,49,32,48,45,48,32,48,49,48,32,50,49,32,48,58,48,32,111,110]
noncomputable def q25:EVal:=.str [49,116,32,50,32,48,45,48,32,48,49,48,32,50,49,32,48,58,48,32,111,110]
noncomputable def q26:EVal:=.str [49,116,32,50,32,48,45,48,32,48,48,48,32,51,49,32,48,58,48,32,111,110]
noncomputable def q27:EVal:=.str [49,116,32,48,32,48,45,48,32,51,50,49,32,52,49,32,48,58,48,32,111,110]
noncomputable def q28:EVal:=.str [52,116,32,48,32,48,45,48,32,48,48,48,32,53,51,32,48,58,49,32,111,110]
noncomputable def q29:EVal:=.str [51,98,32,50,32,48,45,48,32,50,48,48,32,53,51,32,48,58,50,32,111,110]
noncomputable def q30:EVal:=.str [57,98,32,48,32,48,45,48,32,48,48,48,32,53,51,32,51,58,52,32,111,118,101,114]
end AW
end Go.Ev
namespace Go.Ev
open Go.RowKit Go.Proofs
set_option maxRecDepth 100000
set_option maxHeartbeats 4000000
theorem aw80_0:aI Tryz.prog (AW.p0) (run Tryz.prog gT (aU []) 3000 (.call 21 [AW.q9] H.start0))=true:=by kernel_rfl
theorem aw80_1:aI Tryz.prog (AW.p1) (run Tryz.prog gT (aU []) 3000 (.call 21 [.str [67,32,45]] H.start0))=true:=by kernel_rfl
theorem aw80_2:aI Tryz.prog (AW.p2) (run Tryz.prog gT (aU []) 3000 (.call 21 [AW.q10] H.start0))=true:=by kernel_rfl
theorem aw80_3:aI Tryz.prog (AW.p3) (run Tryz.prog gT (aU []) 3000 (.call 21 [AW.q11] H.start0))=true:=by kernel_rfl
theorem aw80_4:aI Tryz.prog (AW.p4) (run Tryz.prog gT (aU []) 3000 (.call 21 [AW.q12] H.start0))=true:=by kernel_rfl
theorem aw80_5:aI Tryz.prog (AW.p5) (run Tryz.prog gT (aU []) 3000 (.call 21 [AW.q13] H.start0))=true:=by kernel_rfl
theorem aw80_6:aI Tryz.prog (AW.p6) (run Tryz.prog gT (aU []) 3000 (.call 21 [AW.q14] H.start0))=true:=by kernel_rfl
theorem aw80_7:aI Tryz.prog (AW.p7) (run Tryz.prog gT (aU []) 3000 (.call 21 [AW.q15] H.start0))=true:=by kernel_rfl
theorem aw80_8:aI Tryz.prog (AW.p8) (run Tryz.prog gT (aU []) 3000 (.call 21 [.str [66,32,45]] H.start0))=true:=by kernel_rfl
theorem aw80_9:aI Tryz.prog (AW.p9) (run Tryz.prog gT (aU []) 3000 (.call 21 [AW.q16] H.start0))=true:=by kernel_rfl
theorem aw80_10:aI Tryz.prog (AW.p10) (run Tryz.prog gT (aU []) 3000 (.call 21 [AW.q17] H.start0))=true:=by kernel_rfl
end Go.Ev
namespace Go.Ev
open Go.RowKit Go.Proofs
set_option maxRecDepth 100000
set_option maxHeartbeats 4000000
theorem aw54_0:aI Tryz.prog (.tup [AW.q18,.int .i64 0]) (run Tryz.prog gT (aU []) 3000 (.call 15 [AW.q8] H.start0))=true:=by kernel_rfl
theorem aw54_1:aI Tryz.prog (.tup [AW.q19,.int .i64 0]) (run Tryz.prog gT (aU []) 3000 (.call 15 [AW.q0] H.start0))=true:=by kernel_rfl
theorem aw54_2:aI Tryz.prog (.tup [AW.q20,.int .i64 0]) (run Tryz.prog gT (aU []) 3000 (.call 15 [AW.q1] H.start0))=true:=by kernel_rfl
theorem aw54_3:aI Tryz.prog (.tup [AW.q26,.int .i64 0]) (run Tryz.prog gT (aU []) 3000 (.call 15 [AW.q2] H.start0))=true:=by kernel_rfl
theorem aw54_4:aI Tryz.prog (.tup [AW.q27,.int .i64 0]) (run Tryz.prog gT (aU []) 3000 (.call 15 [AW.q3] H.start0))=true:=by kernel_rfl
theorem aw54_5:aI Tryz.prog (.tup [AW.q28,.int .i64 0]) (run Tryz.prog gT (aU []) 3000 (.call 15 [AW.q4] H.start0))=true:=by kernel_rfl
theorem aw54_6:aI Tryz.prog (.tup [AW.q29,.int .i64 0]) (run Tryz.prog gT (aU []) 3000 (.call 15 [AW.q5] H.start0))=true:=by kernel_rfl
theorem aw54_7:aI Tryz.prog (.tup [AW.q30,.int .i64 0]) (run Tryz.prog gT (aU []) 3000 (.call 15 [AW.q6] H.start0))=true:=by kernel_rfl
end Go.Ev
namespace Go.Ev
open Go.RowKit Go.Proofs
set_option maxRecDepth 100000
set_option maxHeartbeats 4000000
theorem aw78_0:aI Tryz.prog (AW.s0) (run Tryz.prog gT (aU []) 3000 (.call 18 [AW.q18] H.start0))=true:=by kernel_rfl
theorem aw78_1:aI Tryz.prog (AW.s1) (run Tryz.prog gT (aU []) 3000 (.call 18 [AW.q19] H.start0))=true:=by kernel_rfl
theorem aw78_2:aI Tryz.prog (AW.s2) (run Tryz.prog gT (aU []) 3000 (.call 18 [AW.q20] H.start0))=true:=by kernel_rfl
theorem aw78_3:aI Tryz.prog (AW.s3) (run Tryz.prog gT (aU []) 3000 (.call 18 [AW.q21] H.start0))=true:=by kernel_rfl
theorem aw78_4:aI Tryz.prog (AW.s4) (run Tryz.prog gT (aU []) 3000 (.call 18 [AW.q22] H.start0))=true:=by kernel_rfl
theorem aw78_5:aI Tryz.prog (AW.s5) (run Tryz.prog gT (aU []) 3000 (.call 18 [AW.q23] H.start0))=true:=by kernel_rfl
theorem aw78_6:aI Tryz.prog (AW.s6) (run Tryz.prog gT (aU []) 3000 (.call 18 [AW.q24] H.start0))=true:=by kernel_rfl
theorem aw78_7:aI Tryz.prog (AW.s7) (run Tryz.prog gT (aU []) 3000 (.call 18 [AW.q25] H.start0))=true:=by kernel_rfl
end Go.Ev
namespace Go.Ev
open Go.RowKit Go.Proofs
set_option maxRecDepth 100000
set_option maxHeartbeats 4000000
theorem aw34_0:aI Tryz.prog (.tup [.lsl [],.int .i64 0]) (run Tryz.prog gT (aU []) 3000 (.call 9 [AW.s4,AW.p4] H.start0))=true:=by kernel_rfl
theorem aw34_1:aI Tryz.prog (.tup [.lsl [[.int .i64 1]],.int .i64 0]) (run Tryz.prog gT (aU []) 3000 (.call 9 [AW.s7,AW.p10] H.start0))=true:=by kernel_rfl
theorem aw34_2:aI Tryz.prog (.tup [.lsl [],.int .i64 0]) (run Tryz.prog gT (aU []) 3000 (.call 9 [AW.s7,AW.p9] H.start0))=true:=by kernel_rfl
theorem aw35_0:aI Tryz.prog (.tup [.lsl [[.int .i64 1]],.int .i64 0]) (run Tryz.prog gT (aU []) 3000 (.call 22 [AW.s4,AW.p4] H.start0))=true:=by kernel_rfl
theorem aw36_0:aI Tryz.prog (.tup [.int .i64 1,.int .i64 0]) (run Tryz.prog gT (aU []) 3000 (.call 23 [AW.s4,AW.p4] H.start0))=true:=by kernel_rfl
end Go.Ev
namespace Go.Ev
open Go.RowKit Go.Proofs
set_option maxRecDepth 100000
set_option maxHeartbeats 4000000
theorem aw32_4:aI Tryz.prog (.tup [AW.q4,.int .i64 0,.int .i64 0]) (run Tryz.prog gT (aU []) 3000 (.call 7 [AW.s4,AW.p4] H.start0))=true:=by kernel_rfl
theorem aw32_5:aI Tryz.prog (.tup [AW.q5,.int .i64 0,.int .i64 0]) (run Tryz.prog gT (aU []) 3000 (.call 7 [AW.s4,AW.p5] H.start0))=true:=by kernel_rfl
theorem aw32_6:aI Tryz.prog (.tup [AW.q6,.int .i64 0,.int .i64 0]) (run Tryz.prog gT (aU []) 3000 (.call 7 [AW.s5,AW.p6] H.start0))=true:=by kernel_rfl
theorem aw32_7:aI Tryz.prog (.tup [AW.q7,.int .i64 10,.int .i64 18]) (run Tryz.prog gT (aU []) 3000 (.call 7 [AW.s3,AW.p7] H.start0))=true:=by kernel_rfl
end Go.Ev
namespace Go.Ev
open Go.RowKit Go.Proofs
set_option maxRecDepth 100000
set_option maxHeartbeats 4000000
theorem aw32_0:aI Tryz.prog (.tup [AW.q0,.int .i64 0,.int .i64 0]) (run Tryz.prog gT (aU []) 3000 (.call 7 [AW.s0,AW.p0] H.start0))=true:=by kernel_rfl
theorem aw32_1:aI Tryz.prog (.tup [AW.q1,.int .i64 0,.int .i64 0]) (run Tryz.prog gT (aU []) 3000 (.call 7 [AW.s1,AW.p1] H.start0))=true:=by kernel_rfl
theorem aw32_2:aI Tryz.prog (.tup [AW.q2,.int .i64 0,.int .i64 0]) (run Tryz.prog gT (aU []) 3000 (.call 7 [AW.s2,AW.p2] H.start0))=true:=by kernel_rfl
theorem aw32_3:aI Tryz.prog (.tup [AW.q3,.int .i64 0,.int .i64 0]) (run Tryz.prog gT (aU []) 3000 (.call 7 [AW.s3,AW.p3] H.start0))=true:=by kernel_rfl
end Go.Ev
namespace Go.Ev
open Go.RowKit Go.Proofs
set_option maxRecDepth 100000
set_option maxHeartbeats 4000000
theorem aw32_8:aI Tryz.prog (.tup [AW.q7,.int .i64 2,.int .i64 18]) (run Tryz.prog gT (aU []) 3000 (.call 7 [AW.s3,AW.p8] H.start0))=true:=by kernel_rfl
theorem aw32_9:aI Tryz.prog (.tup [AW.q7,.int .i64 13,.int .i64 18]) (run Tryz.prog gT (aU []) 3000 (.call 7 [AW.s6,AW.p9] H.start0))=true:=by kernel_rfl
end Go.Ev
namespace Go.Ev
open Go.RowKit Go.Proofs
set_option maxRecDepth 100000
set_option maxHeartbeats 4000000
noncomputable def A78:List EVal→Option EVal:=tbl [([AW.q18],AW.s0),([AW.q19],AW.s1),([AW.q20],AW.s2),([AW.q21],AW.s3),([AW.q22],AW.s4),([AW.q23],AW.s5),([AW.q24],AW.s6),([AW.q25],AW.s7)]
theorem an78:FnT 18 A78:=Fn.tbl0 mixed noNG [] (fun _ h=>by cases h) (n:=3000) (by simp only [List.forall_mem_cons];exact⟨aw78_0,aw78_1,aw78_2,aw78_3,aw78_4,aw78_5,aw78_6,aw78_7,fun _ h=>by cases h⟩)
noncomputable def A80:List EVal→Option EVal:=tbl [([AW.q9],AW.p0),([.str [67,32,45]],AW.p1),([AW.q10],AW.p2),([AW.q11],AW.p3),([AW.q12],AW.p4),([AW.q13],AW.p5),([AW.q14],AW.p6),([AW.q15],AW.p7),([.str [66,32,45]],AW.p8),([AW.q16],AW.p9),([AW.q17],AW.p10)]
theorem an80:FnT 21 A80:=Fn.tbl0 mixed noNG [] (fun _ h=>by cases h) (n:=3000) (by simp only [List.forall_mem_cons];exact⟨aw80_0,aw80_1,aw80_2,aw80_3,aw80_4,aw80_5,aw80_6,aw80_7,aw80_8,aw80_9,aw80_10,fun _ h=>by cases h⟩)
noncomputable def A54:List EVal→Option EVal:=tbl [([AW.q8],.tup [AW.q18,.int .i64 0]),([AW.q0],.tup [AW.q19,.int .i64 0]),([AW.q1],.tup [AW.q20,.int .i64 0]),([AW.q2],.tup [AW.q26,.int .i64 0]),([AW.q3],.tup [AW.q27,.int .i64 0]),([AW.q4],.tup [AW.q28,.int .i64 0]),([AW.q5],.tup [AW.q29,.int .i64 0]),([AW.q6],.tup [AW.q30,.int .i64 0])]
theorem an54:FnT 15 A54:=Fn.tbl0 mixed noNG [] (fun _ h=>by cases h) (n:=3000) (by simp only [List.forall_mem_cons];exact⟨aw54_0,aw54_1,aw54_2,aw54_3,aw54_4,aw54_5,aw54_6,aw54_7,fun _ h=>by cases h⟩)
noncomputable def A32:List EVal→Option EVal:=tbl [([AW.s0,AW.p0],.tup [AW.q0,.int .i64 0,.int .i64 0]),([AW.s1,AW.p1],.tup [AW.q1,.int .i64 0,.int .i64 0]),([AW.s2,AW.p2],.tup [AW.q2,.int .i64 0,.int .i64 0]),([AW.s3,AW.p3],.tup [AW.q3,.int .i64 0,.int .i64 0]),([AW.s4,AW.p4],.tup [AW.q4,.int .i64 0,.int .i64 0]),([AW.s4,AW.p5],.tup [AW.q5,.int .i64 0,.int .i64 0]),([AW.s5,AW.p6],.tup [AW.q6,.int .i64 0,.int .i64 0]),([AW.s3,AW.p7],.tup [AW.q7,.int .i64 10,.int .i64 18]),([AW.s3,AW.p8],.tup [AW.q7,.int .i64 2,.int .i64 18]),([AW.s6,AW.p9],.tup [AW.q7,.int .i64 13,.int .i64 18])]
theorem an32:FnT 7 A32:=Fn.tbl0 mixed noNG [] (fun _ h=>by cases h) (n:=3000) (by simp only [List.forall_mem_cons];exact⟨aw32_0,aw32_1,aw32_2,aw32_3,aw32_4,aw32_5,aw32_6,aw32_7,aw32_8,aw32_9,fun _ h=>by cases h⟩)
noncomputable def A34:List EVal→Option EVal:=tbl [([AW.s4,AW.p4],.tup [.lsl [],.int .i64 0]),([AW.s7,AW.p10],.tup [.lsl [[.int .i64 1]],.int .i64 0]),([AW.s7,AW.p9],.tup [.lsl [],.int .i64 0])]
theorem an34:FnT 9 A34:=Fn.tbl0 mixed noNG [] (fun _ h=>by cases h) (n:=3000) (by simp only [List.forall_mem_cons];exact⟨aw34_0,aw34_1,aw34_2,fun _ h=>by cases h⟩)
noncomputable def A35:List EVal→Option EVal:=tbl [([AW.s4,AW.p4],.tup [.lsl [[.int .i64 1]],.int .i64 0])]
theorem an35:FnT 22 A35:=Fn.tbl0 mixed noNG [] (fun _ h=>by cases h) (n:=3000) (by simp only [List.forall_mem_cons];exact⟨aw35_0,fun _ h=>by cases h⟩)
noncomputable def A36:List EVal→Option EVal:=tbl [([AW.s4,AW.p4],.tup [.int .i64 1,.int .i64 0])]
theorem an36:FnT 23 A36:=Fn.tbl0 mixed noNG [] (fun _ h=>by cases h) (n:=3000) (by simp only [List.forall_mem_cons];exact⟨aw36_0,fun _ h=>by cases h⟩)
theorem aw77_0:aI Tryz.prog (.bool true) (run Tryz.prog gT (aU [(18,A78),(21,A80),(15,A54),(7,A32)]) 3000 (.call 17 [AW.q18,AW.q9,AW.q19] H.start0))=true:=by kernel_rfl
theorem aw77_1:aI Tryz.prog (.bool true) (run Tryz.prog gT (aU [(18,A78),(21,A80),(15,A54),(7,A32)]) 3000 (.call 17 [AW.q19,.str [67,32,45],AW.q20] H.start0))=true:=by kernel_rfl
theorem aw77_2:aI Tryz.prog (.bool true) (run Tryz.prog gT (aU [(18,A78),(21,A80),(15,A54),(7,A32)]) 3000 (.call 17 [AW.q20,AW.q10,AW.q26] H.start0))=true:=by kernel_rfl
theorem aw77_3:aI Tryz.prog (.bool true) (run Tryz.prog gT (aU [(18,A78),(21,A80),(15,A54),(7,A32)]) 3000 (.call 17 [AW.q21,AW.q11,AW.q27] H.start0))=true:=by kernel_rfl
theorem aw77_4:aI Tryz.prog (.bool true) (run Tryz.prog gT (aU [(18,A78),(21,A80),(15,A54),(7,A32)]) 3000 (.call 17 [AW.q22,AW.q12,AW.q28] H.start0))=true:=by kernel_rfl
theorem aw77_5:aI Tryz.prog (.bool true) (run Tryz.prog gT (aU [(18,A78),(21,A80),(15,A54),(7,A32)]) 3000 (.call 17 [AW.q22,AW.q13,AW.q29] H.start0))=true:=by kernel_rfl
theorem aw77_6:aI Tryz.prog (.bool true) (run Tryz.prog gT (aU [(18,A78),(21,A80),(15,A54),(7,A32)]) 3000 (.call 17 [AW.q23,AW.q14,AW.q30] H.start0))=true:=by kernel_rfl
noncomputable def A77:List EVal→Option EVal:=tbl [([AW.q18,AW.q9,AW.q19],.bool true),([AW.q19,.str [67,32,45],AW.q20],.bool true),([AW.q20,AW.q10,AW.q26],.bool true),([AW.q21,AW.q11,AW.q27],.bool true),([AW.q22,AW.q12,AW.q28],.bool true),([AW.q22,AW.q13,AW.q29],.bool true),([AW.q23,AW.q14,AW.q30],.bool true)]
theorem an77:FnT 17 A77:=Fn.tbl0 mixed noNG [(18,A78),(21,A80),(15,A54),(7,A32)] (by simp only [List.forall_mem_cons];exact⟨an78,an80,an54,an32,fun _ h=>by cases h⟩) (n:=3000) (by simp only [List.forall_mem_cons];exact⟨aw77_0,aw77_1,aw77_2,aw77_3,aw77_4,aw77_5,aw77_6,fun _ h=>by cases h⟩)
theorem aw79_0:aI Tryz.prog (.bool true) (run Tryz.prog gT (aU [(18,A78),(21,A80),(15,A54),(7,A32)]) 3000 (.call 20 [AW.q21,AW.q15,.int .i64 10] H.start0))=true:=by kernel_rfl
theorem aw79_1:aI Tryz.prog (.bool true) (run Tryz.prog gT (aU [(18,A78),(21,A80),(15,A54),(7,A32)]) 3000 (.call 20 [AW.q21,.str [66,32,45],.int .i64 2] H.start0))=true:=by kernel_rfl
theorem aw79_2:aI Tryz.prog (.bool true) (run Tryz.prog gT (aU [(18,A78),(21,A80),(15,A54),(7,A32)]) 3000 (.call 20 [AW.q24,AW.q16,.int .i64 13] H.start0))=true:=by kernel_rfl
noncomputable def A79:List EVal→Option EVal:=tbl [([AW.q21,AW.q15,.int .i64 10],.bool true),([AW.q21,.str [66,32,45],.int .i64 2],.bool true),([AW.q24,AW.q16,.int .i64 13],.bool true)]
theorem an79:FnT 20 A79:=Fn.tbl0 mixed noNG [(18,A78),(21,A80),(15,A54),(7,A32)] (by simp only [List.forall_mem_cons];exact⟨an78,an80,an54,an32,fun _ h=>by cases h⟩) (n:=3000) (by simp only [List.forall_mem_cons];exact⟨aw79_0,aw79_1,aw79_2,fun _ h=>by cases h⟩)
end Go.Ev
