import Derived.Test.YtmejahdlkaifoaaGreatDoorEvD
import Derived.Test.YtmejahdlkaifoaaGreatDoorBase
set_option linter.unusedSimpArgs false
set_option linter.unusedVariables false
namespace Go.Ev
open Go.RowKit Go.Proofs
abbrev aq2:=Ent Tryz.prog gT
noncomputable def aD (l:List aq2):List aq2:=autos mixed tE l 3000 [39,38,37,148,175,97,55,166,163,160,28,93,91,90,159,158,157,156,89,139,88,71,87,57,58,100,99]
noncomputable def av0:EVal:=.lsl [[.int .i64 0,.int .i64 1,.bool false,.str [98],.lsl [[.int .i64 8]]]]
noncomputable def av1:EVal:=.agg [.str [88],.str [88],.bool false,av0]
noncomputable def av2:EVal:=.agg [.str [66,67,88],.str [88],.bool false,av0]
noncomputable def av3:EVal:=.lsl [[.str [66,67,88],.str [88],.bool false,av0]]
noncomputable def av4:EVal:=.agg [.int .i64 1,.int .i64 0,.int .i64 0,.int .i64 0,.int .i64 0,.int .i64 0,.int .i64 0,.int .i64 0,.int .i64 1,.int .i64 1,.int .i64 0,.int .i64 0,.bool false]
noncomputable def av5:EVal:=.agg [.int .i64 1,.int .i64 0,.int .i64 0,.int .i64 1,.int .i64 1,.int .i64 0,.int .i64 0,.int .i64 0,.int .i64 1,.int .i64 1,.int .i64 0,.int .i64 0,.bool false]
noncomputable def av6:EVal:=.agg [.int .i64 1,.int .i64 0,.int .i64 0,.int .i64 0,.int .i64 0,.int .i64 1,.int .i64 0,.int .i64 0,.int .i64 2,.int .i64 1,.int .i64 0,.int .i64 0,.bool false]
end Go.Ev
namespace Go.Ev
open Go.RowKit Go.Proofs
set_option maxRecDepth 100000
set_option maxHeartbeats 4000000
noncomputable def r0:aq2:=.row mixed tE (aD []) 3000 false 52 [av2] (.int .i64 0) (by kernel_rfl)
noncomputable def r1:aq2:=.row mixed tE (aD []) 3000 false 52 [av1] (.int .i64 0) (by kernel_rfl)
noncomputable def r2:aq2:=.row mixed tE (aD []) 3000 false 108 [.str [66,67,88,32,88,32,48,45,49,98,58,56]] (.tup [.int .i64 12,.bool false]) (by kernel_rfl)
noncomputable def r3:aq2:=.row mixed tE (aD []) 3000 false 22 [av4,.agg [.str [66,67],.str [],.bool false,.lsl []]] (.tup [.lptr [.int .i64 1,.int .i64 0,.int .i64 0,.int .i64 0,.int .i64 0,.int .i64 0,.int .i64 0,.int .i64 0,.int .i64 1,.int .i64 1,.int .i64 0,.int .i64 0,.bool false,.str [66,67],.str [],.bool false,.lsl [],.int .i64 1,.int .i64 1,.bool true,.int .i64 0,.bool true,.bool false,.bool false,.bool false] 0,.int .i64 0,.int .i64 0]) (by kernel_rfl)
noncomputable def r4:aq2:=.row mixed tE (aD []) 3000 false 37 [.lsl [[.str [49,116]],[.str [48]],[.str [48,45,48]],[.str [49,48,48]],[.str [50,49]],[.str [48,58,48]],[.str [111,110]]],.str [32]] (.str [49,116,32,48,32,48,45,48,32,49,48,48,32,50,49,32,48,58,48,32,111,110]) (by kernel_rfl)
end Go.Ev
namespace Go.Ev
open Go.RowKit Go.Proofs
set_option maxRecDepth 100000
set_option maxHeartbeats 4000000
noncomputable def r5:aq2:=.row mixed tE (aD [r2]) 3000 false 73 [.str [66,67,88,32,88,32,48,45,49,98,58,56]] (.tup [av2,.int .i64 0,.int .i64 0]) (by kernel_rfl)
noncomputable def r6:aq2:=.row mixed tE (aD [r3]) 3000 false 8 [av4,.agg [.str [66,67],.str [],.bool false,.lsl []]] (.tup [av5,.int .i64 0,.int .i64 0]) (by kernel_rfl)
noncomputable def r7:aq2:=.row mixed tE (aD [r4]) 3000 false 14 [av6] (.tup [.str [49,116,32,48,32,48,45,48,32,49,48,48,32,50,49,32,48,58,48,32,111,110],.int .i64 0]) (by kernel_rfl)
noncomputable def r8:aq2:=.row mixed tE (aD [r0]) 3000 false 22 [av4,av2] (.tup [.lptr [.int .i64 1,.int .i64 0,.int .i64 0,.int .i64 0,.int .i64 0,.int .i64 0,.int .i64 0,.int .i64 0,.int .i64 1,.int .i64 1,.int .i64 0,.int .i64 0,.bool false,.str [66,67,88],.str [88],.bool false,av0,.int .i64 1,.int .i64 1,.bool true,.int .i64 0,.bool true,.bool false,.bool false,.bool false] 0,.int .i64 0,.int .i64 0]) (by kernel_rfl)
end Go.Ev
namespace Go.Ev
open Go.RowKit Go.Proofs
set_option maxRecDepth 100000
set_option maxHeartbeats 4000000
noncomputable def r9:aq2:=.row mixed tE (aD [r1]) 3000 false 22 [av5,av1] (.tup [.lptr [.int .i64 1,.int .i64 0,.int .i64 0,.int .i64 1,.int .i64 1,.int .i64 0,.int .i64 0,.int .i64 0,.int .i64 1,.int .i64 1,.int .i64 0,.int .i64 0,.bool false,.str [88],.str [88],.bool false,av0,.int .i64 1,.int .i64 1,.bool true,.int .i64 0,.bool true,.bool false,.bool false,.bool false] 0,.int .i64 0,.int .i64 0]) (by kernel_rfl)
end Go.Ev
namespace Go.Ev
open Go.RowKit Go.Proofs
set_option maxRecDepth 100000
set_option maxHeartbeats 4000000
noncomputable def r10:aq2:=.row mixed tE (aD [r5]) 3000 false 34 [.str [66,67,88,32,88,32,48,45,49,98,58,56,10],.int .i64 0] (.tup [av2,.int .i64 0]) (by kernel_rfl)
noncomputable def r11:aq2:=.row mixed tE (aD [r9]) 3000 false 8 [av5,av1] (.tup [av6,.int .i64 0,.int .i64 0]) (by kernel_rfl)
noncomputable def r12:aq2:=.row mixed tE (aD [r8]) 3000 false 13 [av3] (.tup [av6,.int .i64 0,.int .i64 0,.int .i64 0]) (by kernel_rfl)
end Go.Ev
namespace Go.Ev
open Go.RowKit Go.Proofs
set_option maxRecDepth 100000
set_option maxHeartbeats 4000000
noncomputable def r13:aq2:=.row mixed tE (aD [r10]) 3000 false 12 [.str [66,67,88,32,88,32,48,45,49,98,58,56,10]] (.tup [av3,.int .i64 0,.int .i64 0]) (by kernel_rfl)
end Go.Ev
namespace Go.Ev
open Go.RowKit Go.Proofs
set_option maxRecDepth 100000
set_option maxHeartbeats 4000000
theorem awTop:nQ Tryz.prog (.bool true) (run Tryz.prog gT (mO (aD [r6,r7,r11,r12,r13])) 3000 (.call 4 [] (H.st true)))=true:=by kernel_rfl
def F4:List EVal→Option EVal
 | []=>some (.bool true)
 | _=>none
theorem fn4:FnT 4 F4:=Fn.runE mixed tE (aD [r6,r7,r11,r12,r13]) (n:=3000) (b:=true) fun a v h=>by
 unfold F4 at h
 split at h
 · cases h;exact awTop
 · cases h
end Go.Ev
