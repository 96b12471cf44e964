import Derived.Test.YtgjbmohchdmdkaaGreatDoorEvD
import Derived.Test.YtgjbmohchdmdkaaGreatDoorBase
set_option linter.unusedSimpArgs false
set_option linter.unusedVariables false
namespace Go.Ev
open Go.RowKit Go.Proofs
set_option maxRecDepth 100000
set_option maxHeartbeats 4000000
namespace AW
noncomputable def s0:EVal:=.agg [.int .i64 1,.int .i64 0,.int .i64 0,.int .i64 0,.int .i64 0,.int .i64 0,.int .i64 0,.int .i64 0,.int .i64 1,.int .i64 1,.int .i64 0,.int .i64 0,.bool false]
noncomputable def s1:EVal:=.agg [.int .i64 1,.int .i64 0,.int .i64 0,.int .i64 0,.int .i64 0,.int .i64 1,.int .i64 0,.int .i64 0,.int .i64 2,.int .i64 1,.int .i64 0,.int .i64 0,.bool false]
noncomputable def s2:EVal:=.agg [.int .i64 1,.int .i64 0,.int .i64 0,.int .i64 0,.int .i64 1,.int .i64 1,.int .i64 0,.int .i64 0,.int .i64 2,.int .i64 1,.int .i64 0,.int .i64 0,.bool false]
noncomputable def s3:EVal:=.agg [.int .i64 1,.int .i64 0,.int .i64 0,.int .i64 3,.int .i64 0,.int .i64 2,.int .i64 1,.int .i64 0,.int .i64 3,.int .i64 1,.int .i64 0,.int .i64 0,.bool false]
noncomputable def s4:EVal:=.agg [.int .i64 3,.int .i64 1,.int .i64 2,.int .i64 1,.int .i64 2,.int .i64 0,.int .i64 0,.int .i64 1,.int .i64 5,.int .i64 2,.int .i64 0,.int .i64 1,.bool false]
noncomputable def s5:EVal:=.agg [.int .i64 9,.int .i64 1,.int .i64 1,.int .i64 0,.int .i64 0,.int .i64 0,.int .i64 0,.int .i64 1,.int .i64 5,.int .i64 2,.int .i64 3,.int .i64 3,.bool false]
noncomputable def s6:EVal:=.agg [.int .i64 1,.int .i64 0,.int .i64 1,.int .i64 0,.int .i64 0,.int .i64 0,.int .i64 1,.int .i64 0,.int .i64 2,.int .i64 1,.int .i64 0,.int .i64 0,.bool false]
noncomputable def s7:EVal:=.agg [.int .i64 1,.int .i64 0,.int .i64 2,.int .i64 0,.int .i64 0,.int .i64 0,.int .i64 1,.int .i64 0,.int .i64 2,.int .i64 1,.int .i64 0,.int .i64 0,.bool false]
noncomputable def p0:EVal:=.agg [.str [66,88],.str [88],.bool false,.lsl [[.int .i64 0,.int .i64 1,.bool false,.str [98],.lsl []]]]
noncomputable def p1:EVal:=.agg [.str [67],.str [],.bool false,.lsl []]
noncomputable def p2:EVal:=.agg [.str [88],.str [88],.bool false,.lsl [[.int .i64 1,.int .i64 2,.bool true,.str [102],.lsl [[.int .i64 6],[.int .i64 4]]],[.int .i64 0,.int .i64 1,.bool true,.str [102],.lsl [[.int .i64 4],[.int .i64 3]]]]]
noncomputable def p3:EVal:=.agg [.str [66],.str [87],.bool false,.lsl [[.int .i64 2,.int .i64 3,.bool false,.str [97],.lsl []],[.int .i64 1,.int .i64 2,.bool false,.str [97],.lsl []],[.int .i64 0,.int .i64 1,.bool false,.str [97],.lsl []]]]
noncomputable def p4:EVal:=.agg [.str [83],.str [75],.bool false,.lsl [[.int .i64 3,.int .i64 4,.bool false,.str [116],.lsl []],[.int .i64 0,.int .i64 1,.bool true,.str [107],.lsl [[.int .i64 2]]]]]
noncomputable def p5:EVal:=.agg [.str [83],.str [75],.bool false,.lsl [[.int .i64 3,.int .i64 4,.bool false,.str [112],.lsl []],[.int .i64 0,.int .i64 1,.bool false,.str [112],.lsl []]]]
noncomputable def p6:EVal:=.agg [.str [88],.str [88],.bool false,.lsl [[.int .i64 3,.int .i64 4,.bool false,.str [98],.lsl []],[.int .i64 0,.int .i64 1,.bool false,.str [98],.lsl []]]]
noncomputable def p7:EVal:=.agg [.str [66],.str [87],.bool false,.lsl [[.int .i64 2,.int .i64 3,.bool false,.str [97],.lsl []],[.int .i64 0,.int .i64 1,.bool false,.str [97],.lsl []]]]
noncomputable def p8:EVal:=.agg [.str [66],.str [],.bool false,.lsl []]
noncomputable def p9:EVal:=.agg [.str [88],.str [88],.bool true,.lsl [[.int .i64 2,.int .i64 4,.bool false,.str [98],.lsl []],[.int .i64 0,.int .i64 2,.bool true,.str [103],.lsl [[.int .i64 8],[.int .i64 4]]]]]
noncomputable def p10:EVal:=.agg [.str [88],.str [88],.bool false,.lsl [[.int .i64 2,.int .i64 4,.bool false,.str [98],.lsl []],[.int .i64 0,.int .i64 2,.bool true,.str [103],.lsl [[.int .i64 8],[.int .i64 4]]]]]
end AW
end Go.Ev
namespace Go.Ev
open Go.RowKit Go.Proofs
set_option maxRecDepth 100000
set_option maxHeartbeats 4000000
theorem aw54_0:aD Tryz.prog (.tup [.str [49,116,32,48,32,48,45,48,32,48,48,48,32,49,49,32,48,58,48,32,111,110],.int .i64 0]) (run Tryz.prog gT (aI []) 3000 (.call 54 [.agg [.int .i64 1,.int .i64 0,.int .i64 0,.int .i64 0,.int .i64 0,.int .i64 0,.int .i64 0,.int .i64 0,.int .i64 1,.int .i64 1,.int .i64 0,.int .i64 0,.bool false]] H.start0))=true:=by kernel_rfl
theorem aw54_1:aD Tryz.prog (.tup [.str [49,116,32,48,32,48,45,48,32,49,48,48,32,50,49,32,48,58,48,32,111,110],.int .i64 0]) (run Tryz.prog gT (aI []) 3000 (.call 54 [.agg [.int .i64 1,.int .i64 0,.int .i64 0,.int .i64 0,.int .i64 0,.int .i64 1,.int .i64 0,.int .i64 0,.int .i64 2,.int .i64 1,.int .i64 0,.int .i64 0,.bool false]] H.start0))=true:=by kernel_rfl
theorem aw54_2:aD Tryz.prog (.tup [.str [49,116,32,48,32,48,45,49,32,49,48,48,32,50,49,32,48,58,48,32,111,110],.int .i64 0]) (run Tryz.prog gT (aI []) 3000 (.call 54 [.agg [.int .i64 1,.int .i64 0,.int .i64 0,.int .i64 0,.int .i64 1,.int .i64 1,.int .i64 0,.int .i64 0,.int .i64 2,.int .i64 1,.int .i64 0,.int .i64 0,.bool false]] H.start0))=true:=by kernel_rfl
theorem aw54_3:aD Tryz.prog (.tup [.str [49,116,32,50,32,48,45,48,32,48,48,48,32,51,49,32,48,58,48,32,111,110],.int .i64 0]) (run Tryz.prog gT (aI []) 3000 (.call 54 [.agg [.int .i64 1,.int .i64 0,.int .i64 2,.int .i64 0,.int .i64 0,.int .i64 0,.int .i64 0,.int .i64 0,.int .i64 3,.int .i64 1,.int .i64 0,.int .i64 0,.bool false]] H.start0))=true:=by kernel_rfl
theorem aw54_4:aD Tryz.prog (.tup [.str [49,116,32,48,32,48,45,48,32,51,50,49,32,52,49,32,48,58,48,32,111,110],.int .i64 0]) (run Tryz.prog gT (aI []) 3000 (.call 54 [.agg [.int .i64 1,.int .i64 0,.int .i64 0,.int .i64 0,.int .i64 0,.int .i64 3,.int .i64 2,.int .i64 1,.int .i64 4,.int .i64 1,.int .i64 0,.int .i64 0,.bool false]] H.start0))=true:=by kernel_rfl
theorem aw54_5:aD Tryz.prog (.tup [.str [52,116,32,48,32,48,45,48,32,48,48,48,32,53,51,32,48,58,49,32,111,110],.int .i64 0]) (run Tryz.prog gT (aI []) 3000 (.call 54 [.agg [.int .i64 4,.int .i64 0,.int .i64 0,.int .i64 0,.int .i64 0,.int .i64 0,.int .i64 0,.int .i64 0,.int .i64 5,.int .i64 3,.int .i64 0,.int .i64 1,.bool false]] H.start0))=true:=by kernel_rfl
theorem aw54_6:aD Tryz.prog (.tup [.str [51,98,32,50,32,48,45,48,32,50,48,48,32,53,51,32,48,58,50,32,111,110],.int .i64 0]) (run Tryz.prog gT (aI []) 3000 (.call 54 [.agg [.int .i64 3,.int .i64 1,.int .i64 2,.int .i64 0,.int .i64 0,.int .i64 2,.int .i64 0,.int .i64 0,.int .i64 5,.int .i64 3,.int .i64 0,.int .i64 2,.bool false]] H.start0))=true:=by kernel_rfl
theorem aw54_7:aD Tryz.prog (.tup [.str [57,98,32,48,32,48,45,48,32,48,48,48,32,53,51,32,51,58,52,32,111,118,101,114],.int .i64 0]) (run Tryz.prog gT (aI []) 3000 (.call 54 [.agg [.int .i64 9,.int .i64 1,.int .i64 0,.int .i64 0,.int .i64 0,.int .i64 0,.int .i64 0,.int .i64 0,.int .i64 5,.int .i64 3,.int .i64 3,.int .i64 4,.bool true]] H.start0))=true:=by kernel_rfl
end Go.Ev
namespace Go.Ev
open Go.RowKit Go.Proofs
set_option maxRecDepth 100000
set_option maxHeartbeats 4000000
theorem aw80_0:aD Tryz.prog (AW.p0) (run Tryz.prog gT (aI []) 3000 (.call 80 [.str [66,88,32,88,32,48,45,49,98]] H.start0))=true:=by kernel_rfl
theorem aw80_1:aD Tryz.prog (AW.p1) (run Tryz.prog gT (aI []) 3000 (.call 80 [.str [67,32,45]] H.start0))=true:=by kernel_rfl
theorem aw80_2:aD Tryz.prog (AW.p2) (run Tryz.prog gT (aI []) 3000 (.call 80 [.str [88,32,88,32,49,120,50,102,58,54,52,32,48,120,49,102,58,52,51]] H.start0))=true:=by kernel_rfl
theorem aw80_3:aD Tryz.prog (AW.p3) (run Tryz.prog gT (aI []) 3000 (.call 80 [.str [66,32,87,32,50,45,51,97,32,49,45,50,97,32,48,45,49,97]] H.start0))=true:=by kernel_rfl
theorem aw80_4:aD Tryz.prog (AW.p4) (run Tryz.prog gT (aI []) 3000 (.call 80 [.str [83,32,75,32,51,45,52,116,32,48,120,49,107,58,50]] H.start0))=true:=by kernel_rfl
theorem aw80_5:aD Tryz.prog (AW.p5) (run Tryz.prog gT (aI []) 3000 (.call 80 [.str [83,32,75,32,51,45,52,112,32,48,45,49,112]] H.start0))=true:=by kernel_rfl
theorem aw80_6:aD Tryz.prog (AW.p6) (run Tryz.prog gT (aI []) 3000 (.call 80 [.str [88,32,88,32,51,45,52,98,32,48,45,49,98]] H.start0))=true:=by kernel_rfl
theorem aw80_7:aD Tryz.prog (AW.p7) (run Tryz.prog gT (aI []) 3000 (.call 80 [.str [66,32,87,32,50,45,51,97,32,48,45,49,97]] H.start0))=true:=by kernel_rfl
theorem aw80_8:aD Tryz.prog (AW.p8) (run Tryz.prog gT (aI []) 3000 (.call 80 [.str [66,32,45]] H.start0))=true:=by kernel_rfl
theorem aw80_9:aD Tryz.prog (AW.p9) (run Tryz.prog gT (aI []) 3000 (.call 80 [.str [88,32,88,32,108,97,116,101,32,50,45,52,98,32,48,120,50,103,58,56,52]] H.start0))=true:=by kernel_rfl
theorem aw80_10:aD Tryz.prog (AW.p10) (run Tryz.prog gT (aI []) 3000 (.call 80 [.str [88,32,88,32,50,45,52,98,32,48,120,50,103,58,56,52]] H.start0))=true:=by kernel_rfl
end Go.Ev
namespace Go.Ev
open Go.RowKit Go.Proofs
set_option maxRecDepth 100000
set_option maxHeartbeats 4000000
theorem aw78_0:aD Tryz.prog (AW.s0) (run Tryz.prog gT (aI []) 3000 (.call 78 [.str [49,116,32,48,32,48,45,48,32,48,48,48,32,49,49,32,48,58,48,32,111,110]] H.start0))=true:=by kernel_rfl
theorem aw78_1:aD Tryz.prog (AW.s1) (run Tryz.prog gT (aI []) 3000 (.call 78 [.str [49,116,32,48,32,48,45,48,32,49,48,48,32,50,49,32,48,58,48,32,111,110]] H.start0))=true:=by kernel_rfl
theorem aw78_2:aD Tryz.prog (AW.s2) (run Tryz.prog gT (aI []) 3000 (.call 78 [.str [49,116,32,48,32,48,45,49,32,49,48,48,32,50,49,32,48,58,48,32,111,110]] H.start0))=true:=by kernel_rfl
theorem aw78_3:aD Tryz.prog (AW.s3) (run Tryz.prog gT (aI []) 3000 (.call 78 [.str [49,116,32,48,32,51,45,48,32,50,49,48,32,51,49,32,48,58,48,32,111,110]] H.start0))=true:=by kernel_rfl
theorem aw78_4:aD Tryz.prog (AW.s4) (run Tryz.prog gT (aI []) 3000 (.call 78 [.str [51,98,32,50,32,49,45,50,32,48,48,49,32,53,50,32,48,58,49,32,111,110]] H.start0))=true:=by kernel_rfl
theorem aw78_5:aD Tryz.prog (AW.s5) (run Tryz.prog gT (aI []) 3000 (.call 78 [.str [57,98,32,49,32,48,45,48,32,48,48,49,32,53,50,32,51,58,51,32,111,110]] H.start0))=true:=by kernel_rfl
theorem aw78_6:aD Tryz.prog (AW.s6) (run Tryz.prog gT (aI []) 3000 (.call 78 [.str [49,116,32,49,32,48,45,48,32,48,49,48,32,50,49,32,48,58,48,32,111,110]] H.start0))=true:=by kernel_rfl
theorem aw78_7:aD Tryz.prog (AW.s7) (run Tryz.prog gT (aI []) 3000 (.call 78 [.str [49,116,32,50,32,48,45,48,32,48,49,48,32,50,49,32,48,58,48,32,111,110]] H.start0))=true:=by kernel_rfl
end Go.Ev
namespace Go.Ev
open Go.RowKit Go.Proofs
set_option maxRecDepth 100000
set_option maxHeartbeats 4000000
theorem aw32_4:aD Tryz.prog (.tup [.agg [.int .i64 4,.int .i64 0,.int .i64 0,.int .i64 0,.int .i64 0,.int .i64 0,.int .i64 0,.int .i64 0,.int .i64 5,.int .i64 3,.int .i64 0,.int .i64 1,.bool false],.int .i64 0,.int .i64 0]) (run Tryz.prog gT (aI []) 3000 (.call 32 [AW.s4,AW.p4] H.start0))=true:=by kernel_rfl
theorem aw32_5:aD Tryz.prog (.tup [.agg [.int .i64 3,.int .i64 1,.int .i64 2,.int .i64 0,.int .i64 0,.int .i64 2,.int .i64 0,.int .i64 0,.int .i64 5,.int .i64 3,.int .i64 0,.int .i64 2,.bool false],.int .i64 0,.int .i64 0]) (run Tryz.prog gT (aI []) 3000 (.call 32 [AW.s4,AW.p5] H.start0))=true:=by kernel_rfl
theorem aw32_6:aD Tryz.prog (.tup [.agg [.int .i64 9,.int .i64 1,.int .i64 0,.int .i64 0,.int .i64 0,.int .i64 0,.int .i64 0,.int .i64 0,.int .i64 5,.int .i64 3,.int .i64 3,.int .i64 4,.bool true],.int .i64 0,.int .i64 0]) (run Tryz.prog gT (aI []) 3000 (.call 32 [AW.s5,AW.p6] H.start0))=true:=by kernel_rfl
theorem aw32_7:aD Tryz.prog (.tup [.agg [.int .i64 0,.int .i64 0,.int .i64 0,.int .i64 0,.int .i64 0,.int .i64 0,.int .i64 0,.int .i64 0,.int .i64 0,.int .i64 0,.int .i64 0,.int .i64 0,.bool false],.int .i64 10,.int .i64 18]) (run Tryz.prog gT (aI []) 3000 (.call 32 [AW.s3,AW.p7] H.start0))=true:=by kernel_rfl
end Go.Ev
namespace Go.Ev
open Go.RowKit Go.Proofs
set_option maxRecDepth 100000
set_option maxHeartbeats 4000000
theorem aw32_0:aD Tryz.prog (.tup [.agg [.int .i64 1,.int .i64 0,.int .i64 0,.int .i64 0,.int .i64 0,.int .i64 1,.int .i64 0,.int .i64 0,.int .i64 2,.int .i64 1,.int .i64 0,.int .i64 0,.bool false],.int .i64 0,.int .i64 0]) (run Tryz.prog gT (aI []) 3000 (.call 32 [AW.s0,AW.p0] H.start0))=true:=by kernel_rfl
theorem aw32_1:aD Tryz.prog (.tup [.agg [.int .i64 1,.int .i64 0,.int .i64 0,.int .i64 0,.int .i64 1,.int .i64 1,.int .i64 0,.int .i64 0,.int .i64 2,.int .i64 1,.int .i64 0,.int .i64 0,.bool false],.int .i64 0,.int .i64 0]) (run Tryz.prog gT (aI []) 3000 (.call 32 [AW.s1,AW.p1] H.start0))=true:=by kernel_rfl
theorem aw32_2:aD Tryz.prog (.tup [.agg [.int .i64 1,.int .i64 0,.int .i64 2,.int .i64 0,.int .i64 0,.int .i64 0,.int .i64 0,.int .i64 0,.int .i64 3,.int .i64 1,.int .i64 0,.int .i64 0,.bool false],.int .i64 0,.int .i64 0]) (run Tryz.prog gT (aI []) 3000 (.call 32 [AW.s2,AW.p2] H.start0))=true:=by kernel_rfl
theorem aw32_3:aD Tryz.prog (.tup [.agg [.int .i64 1,.int .i64 0,.int .i64 0,.int .i64 0,.int .i64 0,.int .i64 3,.int .i64 2,.int .i64 1,.int .i64 4,.int .i64 1,.int .i64 0,.int .i64 0,.bool false],.int .i64 0,.int .i64 0]) (run Tryz.prog gT (aI []) 3000 (.call 32 [AW.s3,AW.p3] H.start0))=true:=by kernel_rfl
end Go.Ev
namespace Go.Ev
open Go.RowKit Go.Proofs
set_option maxRecDepth 100000
set_option maxHeartbeats 4000000
theorem aw34_0:aD Tryz.prog (.tup [.lsl [],.int .i64 0]) (run Tryz.prog gT (aI []) 3000 (.call 34 [AW.s4,AW.p4] H.start0))=true:=by kernel_rfl
theorem aw34_1:aD Tryz.prog (.tup [.lsl [[.int .i64 1]],.int .i64 0]) (run Tryz.prog gT (aI []) 3000 (.call 34 [AW.s7,AW.p10] H.start0))=true:=by kernel_rfl
theorem aw34_2:aD Tryz.prog (.tup [.lsl [],.int .i64 0]) (run Tryz.prog gT (aI []) 3000 (.call 34 [AW.s7,AW.p9] H.start0))=true:=by kernel_rfl
theorem aw35_0:aD Tryz.prog (.tup [.lsl [[.int .i64 1]],.int .i64 0]) (run Tryz.prog gT (aI []) 3000 (.call 35 [AW.s4,AW.p4] H.start0))=true:=by kernel_rfl
theorem aw36_0:aD Tryz.prog (.tup [.int .i64 1,.int .i64 0]) (run Tryz.prog gT (aI []) 3000 (.call 36 [AW.s4,AW.p4] H.start0))=true:=by kernel_rfl
end Go.Ev
namespace Go.Ev
open Go.RowKit Go.Proofs
set_option maxRecDepth 100000
set_option maxHeartbeats 4000000
theorem aw32_8:aD Tryz.prog (.tup [.agg [.int .i64 0,.int .i64 0,.int .i64 0,.int .i64 0,.int .i64 0,.int .i64 0,.int .i64 0,.int .i64 0,.int .i64 0,.int .i64 0,.int .i64 0,.int .i64 0,.bool false],.int .i64 2,.int .i64 18]) (run Tryz.prog gT (aI []) 3000 (.call 32 [AW.s3,AW.p8] H.start0))=true:=by kernel_rfl
theorem aw32_9:aD Tryz.prog (.tup [.agg [.int .i64 0,.int .i64 0,.int .i64 0,.int .i64 0,.int .i64 0,.int .i64 0,.int .i64 0,.int .i64 0,.int .i64 0,.int .i64 0,.int .i64 0,.int .i64 0,.bool false],.int .i64 13,.int .i64 18]) (run Tryz.prog gT (aI []) 3000 (.call 32 [AW.s6,AW.p9] H.start0))=true:=by kernel_rfl
end Go.Ev
namespace Go.Ev
open Go.RowKit Go.Proofs
set_option maxRecDepth 100000
set_option maxHeartbeats 4000000
noncomputable def A78:List EVal→Option EVal:=tbl [([.str [49,116,32,48,32,48,45,48,32,48,48,48,32,49,49,32,48,58,48,32,111,110]],AW.s0),([.str [49,116,32,48,32,48,45,48,32,49,48,48,32,50,49,32,48,58,48,32,111,110]],AW.s1),([.str [49,116,32,48,32,48,45,49,32,49,48,48,32,50,49,32,48,58,48,32,111,110]],AW.s2),([.str [49,116,32,48,32,51,45,48,32,50,49,48,32,51,49,32,48,58,48,32,111,110]],AW.s3),([.str [51,98,32,50,32,49,45,50,32,48,48,49,32,53,50,32,48,58,49,32,111,110]],AW.s4),([.str [57,98,32,49,32,48,45,48,32,48,48,49,32,53,50,32,51,58,51,32,111,110]],AW.s5),([.str [49,116,32,49,32,48,45,48,32,48,49,48,32,50,49,32,48,58,48,32,111,110]],AW.s6),([.str [49,116,32,50,32,48,45,48,32,48,49,48,32,50,49,32,48,58,48,32,111,110]],AW.s7)]
theorem an78:FnT 78 A78:=Fn.tbl0 mixed aja [] (fun _ h=>by cases h) (n:=3000) (by simp only [List.forall_mem_cons];exact⟨aw78_0,aw78_1,aw78_2,aw78_3,aw78_4,aw78_5,aw78_6,aw78_7,fun _ h=>by cases h⟩)
noncomputable def A80:List EVal→Option EVal:=tbl [([.str [66,88,32,88,32,48,45,49,98]],AW.p0),([.str [67,32,45]],AW.p1),([.str [88,32,88,32,49,120,50,102,58,54,52,32,48,120,49,102,58,52,51]],AW.p2),([.str [66,32,87,32,50,45,51,97,32,49,45,50,97,32,48,45,49,97]],AW.p3),([.str [83,32,75,32,51,45,52,116,32,48,120,49,107,58,50]],AW.p4),([.str [83,32,75,32,51,45,52,112,32,48,45,49,112]],AW.p5),([.str [88,32,88,32,51,45,52,98,32,48,45,49,98]],AW.p6),([.str [66,32,87,32,50,45,51,97,32,48,45,49,97]],AW.p7),([.str [66,32,45]],AW.p8),([.str [88,32,88,32,108,97,116,101,32,50,45,52,98,32,48,120,50,103,58,56,52]],AW.p9),([.str [88,32,88,32,50,45,52,98,32,48,120,50,103,58,56,52]],AW.p10)]
theorem an80:FnT 80 A80:=Fn.tbl0 mixed aja [] (fun _ h=>by cases h) (n:=3000) (by simp only [List.forall_mem_cons];exact⟨aw80_0,aw80_1,aw80_2,aw80_3,aw80_4,aw80_5,aw80_6,aw80_7,aw80_8,aw80_9,aw80_10,fun _ h=>by cases h⟩)
noncomputable def A54:List EVal→Option EVal:=tbl [([.agg [.int .i64 1,.int .i64 0,.int .i64 0,.int .i64 0,.int .i64 0,.int .i64 0,.int .i64 0,.int .i64 0,.int .i64 1,.int .i64 1,.int .i64 0,.int .i64 0,.bool false]],.tup [.str [49,116,32,48,32,48,45,48,32,48,48,48,32,49,49,32,48,58,48,32,111,110],.int .i64 0]),([.agg [.int .i64 1,.int .i64 0,.int .i64 0,.int .i64 0,.int .i64 0,.int .i64 1,.int .i64 0,.int .i64 0,.int .i64 2,.int .i64 1,.int .i64 0,.int .i64 0,.bool false]],.tup [.str [49,116,32,48,32,48,45,48,32,49,48,48,32,50,49,32,48,58,48,32,111,110],.int .i64 0]),([.agg [.int .i64 1,.int .i64 0,.int .i64 0,.int .i64 0,.int .i64 1,.int .i64 1,.int .i64 0,.int .i64 0,.int .i64 2,.int .i64 1,.int .i64 0,.int .i64 0,.bool false]],.tup [.str [49,116,32,48,32,48,45,49,32,49,48,48,32,50,49,32,48,58,48,32,111,110],.int .i64 0]),([.agg [.int .i64 1,.int .i64 0,.int .i64 2,.int .i64 0,.int .i64 0,.int .i64 0,.int .i64 0,.int .i64 0,.int .i64 3,.int .i64 1,.int .i64 0,.int .i64 0,.bool false]],.tup [.str [49,116,32,50,32,48,45,48,32,48,48,48,32,51,49,32,48,58,48,32,111,110],.int .i64 0]),([.agg [.int .i64 1,.int .i64 0,.int .i64 0,.int .i64 0,.int .i64 0,.int .i64 3,.int .i64 2,.int .i64 1,.int .i64 4,.int .i64 1,.int .i64 0,.int .i64 0,.bool false]],.tup [.str [49,116,32,48,32,48,45,48,32,51,50,49,32,52,49,32,48,58,48,32,111,110],.int .i64 0]),([.agg [.int .i64 4,.int .i64 0,.int .i64 0,.int .i64 0,.int .i64 0,.int .i64 0,.int .i64 0,.int .i64 0,.int .i64 5,.int .i64 3,.int .i64 0,.int .i64 1,.bool false]],.tup [.str [52,116,32,48,32,48,45,48,32,48,48,48,32,53,51,32,48,58,49,32,111,110],.int .i64 0]),([.agg [.int .i64 3,.int .i64 1,.int .i64 2,.int .i64 0,.int .i64 0,.int .i64 2,.int .i64 0,.int .i64 0,.int .i64 5,.int .i64 3,.int .i64 0,.int .i64 2,.bool false]],.tup [.str [51,98,32,50,32,48,45,48,32,50,48,48,32,53,51,32,48,58,50,32,111,110],.int .i64 0]),([.agg [.int .i64 9,.int .i64 1,.int .i64 0,.int .i64 0,.int .i64 0,.int .i64 0,.int .i64 0,.int .i64 0,.int .i64 5,.int .i64 3,.int .i64 3,.int .i64 4,.bool true]],.tup [.str [57,98,32,48,32,48,45,48,32,48,48,48,32,53,51,32,51,58,52,32,111,118,101,114],.int .i64 0])]
theorem an54:FnT 54 A54:=Fn.tbl0 mixed aja [] (fun _ h=>by cases h) (n:=3000) (by simp only [List.forall_mem_cons];exact⟨aw54_0,aw54_1,aw54_2,aw54_3,aw54_4,aw54_5,aw54_6,aw54_7,fun _ h=>by cases h⟩)
noncomputable def A32:List EVal→Option EVal:=tbl [([AW.s0,AW.p0],.tup [.agg [.int .i64 1,.int .i64 0,.int .i64 0,.int .i64 0,.int .i64 0,.int .i64 1,.int .i64 0,.int .i64 0,.int .i64 2,.int .i64 1,.int .i64 0,.int .i64 0,.bool false],.int .i64 0,.int .i64 0]),([AW.s1,AW.p1],.tup [.agg [.int .i64 1,.int .i64 0,.int .i64 0,.int .i64 0,.int .i64 1,.int .i64 1,.int .i64 0,.int .i64 0,.int .i64 2,.int .i64 1,.int .i64 0,.int .i64 0,.bool false],.int .i64 0,.int .i64 0]),([AW.s2,AW.p2],.tup [.agg [.int .i64 1,.int .i64 0,.int .i64 2,.int .i64 0,.int .i64 0,.int .i64 0,.int .i64 0,.int .i64 0,.int .i64 3,.int .i64 1,.int .i64 0,.int .i64 0,.bool false],.int .i64 0,.int .i64 0]),([AW.s3,AW.p3],.tup [.agg [.int .i64 1,.int .i64 0,.int .i64 0,.int .i64 0,.int .i64 0,.int .i64 3,.int .i64 2,.int .i64 1,.int .i64 4,.int .i64 1,.int .i64 0,.int .i64 0,.bool false],.int .i64 0,.int .i64 0]),([AW.s4,AW.p4],.tup [.agg [.int .i64 4,.int .i64 0,.int .i64 0,.int .i64 0,.int .i64 0,.int .i64 0,.int .i64 0,.int .i64 0,.int .i64 5,.int .i64 3,.int .i64 0,.int .i64 1,.bool false],.int .i64 0,.int .i64 0]),([AW.s4,AW.p5],.tup [.agg [.int .i64 3,.int .i64 1,.int .i64 2,.int .i64 0,.int .i64 0,.int .i64 2,.int .i64 0,.int .i64 0,.int .i64 5,.int .i64 3,.int .i64 0,.int .i64 2,.bool false],.int .i64 0,.int .i64 0]),([AW.s5,AW.p6],.tup [.agg [.int .i64 9,.int .i64 1,.int .i64 0,.int .i64 0,.int .i64 0,.int .i64 0,.int .i64 0,.int .i64 0,.int .i64 5,.int .i64 3,.int .i64 3,.int .i64 4,.bool true],.int .i64 0,.int .i64 0]),([AW.s3,AW.p7],.tup [.agg [.int .i64 0,.int .i64 0,.int .i64 0,.int .i64 0,.int .i64 0,.int .i64 0,.int .i64 0,.int .i64 0,.int .i64 0,.int .i64 0,.int .i64 0,.int .i64 0,.bool false],.int .i64 10,.int .i64 18]),([AW.s3,AW.p8],.tup [.agg [.int .i64 0,.int .i64 0,.int .i64 0,.int .i64 0,.int .i64 0,.int .i64 0,.int .i64 0,.int .i64 0,.int .i64 0,.int .i64 0,.int .i64 0,.int .i64 0,.bool false],.int .i64 2,.int .i64 18]),([AW.s6,AW.p9],.tup [.agg [.int .i64 0,.int .i64 0,.int .i64 0,.int .i64 0,.int .i64 0,.int .i64 0,.int .i64 0,.int .i64 0,.int .i64 0,.int .i64 0,.int .i64 0,.int .i64 0,.bool false],.int .i64 13,.int .i64 18])]
theorem an32:FnT 32 A32:=Fn.tbl0 mixed aja [] (fun _ h=>by cases h) (n:=3000) (by simp only [List.forall_mem_cons];exact⟨aw32_0,aw32_1,aw32_2,aw32_3,aw32_4,aw32_5,aw32_6,aw32_7,aw32_8,aw32_9,fun _ h=>by cases h⟩)
noncomputable def A34:List EVal→Option EVal:=tbl [([AW.s4,AW.p4],.tup [.lsl [],.int .i64 0]),([AW.s7,AW.p10],.tup [.lsl [[.int .i64 1]],.int .i64 0]),([AW.s7,AW.p9],.tup [.lsl [],.int .i64 0])]
theorem an34:FnT 34 A34:=Fn.tbl0 mixed aja [] (fun _ h=>by cases h) (n:=3000) (by simp only [List.forall_mem_cons];exact⟨aw34_0,aw34_1,aw34_2,fun _ h=>by cases h⟩)
noncomputable def A35:List EVal→Option EVal:=tbl [([AW.s4,AW.p4],.tup [.lsl [[.int .i64 1]],.int .i64 0])]
theorem an35:FnT 35 A35:=Fn.tbl0 mixed aja [] (fun _ h=>by cases h) (n:=3000) (by simp only [List.forall_mem_cons];exact⟨aw35_0,fun _ h=>by cases h⟩)
noncomputable def A36:List EVal→Option EVal:=tbl [([AW.s4,AW.p4],.tup [.int .i64 1,.int .i64 0])]
theorem an36:FnT 36 A36:=Fn.tbl0 mixed aja [] (fun _ h=>by cases h) (n:=3000) (by simp only [List.forall_mem_cons];exact⟨aw36_0,fun _ h=>by cases h⟩)
theorem aw77_0:aD Tryz.prog (.bool true) (run Tryz.prog gT (aI [(78,A78),(80,A80),(54,A54),(32,A32)]) 3000 (.call 77 [.str [49,116,32,48,32,48,45,48,32,48,48,48,32,49,49,32,48,58,48,32,111,110],.str [66,88,32,88,32,48,45,49,98],.str [49,116,32,48,32,48,45,48,32,49,48,48,32,50,49,32,48,58,48,32,111,110]] H.start0))=true:=by kernel_rfl
theorem aw77_1:aD Tryz.prog (.bool true) (run Tryz.prog gT (aI [(78,A78),(80,A80),(54,A54),(32,A32)]) 3000 (.call 77 [.str [49,116,32,48,32,48,45,48,32,49,48,48,32,50,49,32,48,58,48,32,111,110],.str [67,32,45],.str [49,116,32,48,32,48,45,49,32,49,48,48,32,50,49,32,48,58,48,32,111,110]] H.start0))=true:=by kernel_rfl
theorem aw77_2:aD Tryz.prog (.bool true) (run Tryz.prog gT (aI [(78,A78),(80,A80),(54,A54),(32,A32)]) 3000 (.call 77 [.str [49,116,32,48,32,48,45,49,32,49,48,48,32,50,49,32,48,58,48,32,111,110],.str [88,32,88,32,49,120,50,102,58,54,52,32,48,120,49,102,58,52,51],.str [49,116,32,50,32,48,45,48,32,48,48,48,32,51,49,32,48,58,48,32,111,110]] H.start0))=true:=by kernel_rfl
theorem aw77_3:aD Tryz.prog (.bool true) (run Tryz.prog gT (aI [(78,A78),(80,A80),(54,A54),(32,A32)]) 3000 (.call 77 [.str [49,116,32,48,32,51,45,48,32,50,49,48,32,51,49,32,48,58,48,32,111,110],.str [66,32,87,32,50,45,51,97,32,49,45,50,97,32,48,45,49,97],.str [49,116,32,48,32,48,45,48,32,51,50,49,32,52,49,32,48,58,48,32,111,110]] H.start0))=true:=by kernel_rfl
theorem aw77_4:aD Tryz.prog (.bool true) (run Tryz.prog gT (aI [(78,A78),(80,A80),(54,A54),(32,A32)]) 3000 (.call 77 [.str [51,98,32,50,32,49,45,50,32,48,48,49,32,53,50,32,48,58,49,32,111,110],.str [83,32,75,32,51,45,52,116,32,48,120,49,107,58,50],.str [52,116,32,48,32,48,45,48,32,48,48,48,32,53,51,32,48,58,49,32,111,110]] H.start0))=true:=by kernel_rfl
theorem aw77_5:aD Tryz.prog (.bool true) (run Tryz.prog gT (aI [(78,A78),(80,A80),(54,A54),(32,A32)]) 3000 (.call 77 [.str [51,98,32,50,32,49,45,50,32,48,48,49,32,53,50,32,48,58,49,32,111,110],.str [83,32,75,32,51,45,52,112,32,48,45,49,112],.str [51,98,32,50,32,48,45,48,32,50,48,48,32,53,51,32,48,58,50,32,111,110]] H.start0))=true:=by kernel_rfl
theorem aw77_6:aD Tryz.prog (.bool true) (run Tryz.prog gT (aI [(78,A78),(80,A80),(54,A54),(32,A32)]) 3000 (.call 77 [.str [57,98,32,49,32,48,45,48,32,48,48,49,32,53,50,32,51,58,51,32,111,110],.str [88,32,88,32,51,45,52,98,32,48,45,49,98],.str [57,98,32,48,32,48,45,48,32,48,48,48,32,53,51,32,51,58,52,32,111,118,101,114]] H.start0))=true:=by kernel_rfl
noncomputable def A77:List EVal→Option EVal:=tbl [([.str [49,116,32,48,32,48,45,48,32,48,48,48,32,49,49,32,48,58,48,32,111,110],.str [66,88,32,88,32,48,45,49,98],.str [49,116,32,48,32,48,45,48,32,49,48,48,32,50,49,32,48,58,48,32,111,110]],.bool true),([.str [49,116,32,48,32,48,45,48,32,49,48,48,32,50,49,32,48,58,48,32,111,110],.str [67,32,45],.str [49,116,32,48,32,48,45,49,32,49,48,48,32,50,49,32,48,58,48,32,111,110]],.bool true),([.str [49,116,32,48,32,48,45,49,32,49,48,48,32,50,49,32,48,58,48,32,111,110],.str [88,32,88,32,49,120,50,102,58,54,52,32,48,120,49,102,58,52,51],.str [49,116,32,50,32,48,45,48,32,48,48,48,32,51,49,32,48,58,48,32,111,110]],.bool true),([.str [49,116,32,48,32,51,45,48,32,50,49,48,32,51,49,32,48,58,48,32,111,110],.str [66,32,87,32,50,45,51,97,32,49,45,50,97,32,48,45,49,97],.str [49,116,32,48,32,48,45,48,32,51,50,49,32,52,49,32,48,58,48,32,111,110]],.bool true),([.str [51,98,32,50,32,49,45,50,32,48,48,49,32,53,50,32,48,58,49,32,111,110],.str [83,32,75,32,51,45,52,116,32,48,120,49,107,58,50],.str [52,116,32,48,32,48,45,48,32,48,48,48,32,53,51,32,48,58,49,32,111,110]],.bool true),([.str [51,98,32,50,32,49,45,50,32,48,48,49,32,53,50,32,48,58,49,32,111,110],.str [83,32,75,32,51,45,52,112,32,48,45,49,112],.str [51,98,32,50,32,48,45,48,32,50,48,48,32,53,51,32,48,58,50,32,111,110]],.bool true),([.str [57,98,32,49,32,48,45,48,32,48,48,49,32,53,50,32,51,58,51,32,111,110],.str [88,32,88,32,51,45,52,98,32,48,45,49,98],.str [57,98,32,48,32,48,45,48,32,48,48,48,32,53,51,32,51,58,52,32,111,118,101,114]],.bool true)]
theorem an77:FnT 77 A77:=Fn.tbl0 mixed aja [(78,A78),(80,A80),(54,A54),(32,A32)] (by simp only [List.forall_mem_cons];exact⟨an78,an80,an54,an32,fun _ h=>by cases h⟩) (n:=3000) (by simp only [List.forall_mem_cons];exact⟨aw77_0,aw77_1,aw77_2,aw77_3,aw77_4,aw77_5,aw77_6,fun _ h=>by cases h⟩)
theorem aw79_0:aD Tryz.prog (.bool true) (run Tryz.prog gT (aI [(78,A78),(80,A80),(54,A54),(32,A32)]) 3000 (.call 79 [.str [49,116,32,48,32,51,45,48,32,50,49,48,32,51,49,32,48,58,48,32,111,110],.str [66,32,87,32,50,45,51,97,32,48,45,49,97],.int .i64 10] H.start0))=true:=by kernel_rfl
theorem aw79_1:aD Tryz.prog (.bool true) (run Tryz.prog gT (aI [(78,A78),(80,A80),(54,A54),(32,A32)]) 3000 (.call 79 [.str [49,116,32,48,32,51,45,48,32,50,49,48,32,51,49,32,48,58,48,32,111,110],.str [66,32,45],.int .i64 2] H.start0))=true:=by kernel_rfl
theorem aw79_2:aD Tryz.prog (.bool true) (run Tryz.prog gT (aI [(78,A78),(80,A80),(54,A54),(32,A32)]) 3000 (.call 79 [.str [49,116,32,49,32,48,45,48,32,48,49,48,32,50,49,32,48,58,48,32,111,110],.str [88,32,88,32,108,97,116,101,32,50,45,52,98,32,48,120,50,103,58,56,52],.int .i64 13] H.start0))=true:=by kernel_rfl
noncomputable def A79:List EVal→Option EVal:=tbl [([.str [49,116,32,48,32,51,45,48,32,50,49,48,32,51,49,32,48,58,48,32,111,110],.str [66,32,87,32,50,45,51,97,32,48,45,49,97],.int .i64 10],.bool true),([.str [49,116,32,48,32,51,45,48,32,50,49,48,32,51,49,32,48,58,48,32,111,110],.str [66,32,45],.int .i64 2],.bool true),([.str [49,116,32,49,32,48,45,48,32,48,49,48,32,50,49,32,48,58,48,32,111,110],.str [88,32,88,32,108,97,116,101,32,50,45,52,98,32,48,120,50,103,58,56,52],.int .i64 13],.bool true)]
theorem an79:FnT 79 A79:=Fn.tbl0 mixed aja [(78,A78),(80,A80),(54,A54),(32,A32)] (by simp only [List.forall_mem_cons];exact⟨an78,an80,an54,an32,fun _ h=>by cases h⟩) (n:=3000) (by simp only [List.forall_mem_cons];exact⟨aw79_0,aw79_1,aw79_2,fun _ h=>by cases h⟩)
end Go.Ev
