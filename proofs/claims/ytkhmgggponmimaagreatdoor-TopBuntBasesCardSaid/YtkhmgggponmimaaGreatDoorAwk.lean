import Derived.Test.YtkhmgggponmimaaGreatDoorEvE
import Derived.Test.YtkhmgggponmimaaGreatDoorBase
set_option linter.unusedSimpArgs false
set_option linter.unusedVariables false
namespace Go.Ev
open Go.RowKit Go.Proofs
abbrev s7:=Ent Tryz.prog gT
noncomputable def aD (l:List s7):List s7:=autos mixed noNG l 3000 [46,45,44,29,144,141,138,137,84,82,61,58,90,89,27,128,153,50,104,103,102,101,49,86,48,47,67]
noncomputable def av0:EVal:=.lsl [[.int .i64 0,.int .i64 1,.bool false,.str [98],.lsl []]]
noncomputable def av1:EVal:=.lsl [[.int .i64 1,.int .i64 2,.bool false,.str [115],.lsl []]]
noncomputable def av2:EVal:=.agg [.str [66],.str [],.bool false,av1]
noncomputable def av3:EVal:=.agg [.str [88],.str [88],.bool false,av0]
noncomputable def av4:EVal:=.lsl [[.int .i64 2,.int .i64 4,.bool false,.str [98],.lsl []],[.int .i64 0,.int .i64 2,.bool false,.str [98],.lsl []]]
noncomputable def av5:EVal:=.agg [.str [88],.str [88],.bool false,av4]
noncomputable def av6:EVal:=.agg [.int .i64 1,.int .i64 0,.int .i64 0,.int .i64 0,.int .i64 0,.int .i64 0,.int .i64 2,.int .i64 0,.int .i64 3,.int .i64 1,.int .i64 1,.int .i64 0,.bool false]
noncomputable def av7:EVal:=.lsl [[.str [88],.str [88],.bool false,av0],[.str [66],.str [],.bool false,av1],[.str [88],.str [88],.bool false,av4]]
end Go.Ev
namespace Go.Ev
open Go.RowKit Go.Proofs
set_option maxRecDepth 100000
set_option maxHeartbeats 4000000
noncomputable def r4:s7:=.row mixed noNG (aD []) 3000 false 50 [av4] (.int .i64 0) (by kernel_rfl)
noncomputable def r5:s7:=.row mixed noNG (aD []) 3000 false 93 [.str [88,32,88,32,50,45,52,98,32,48,45,50,98]] (.tup [.int .i64 13,.bool false]) (by kernel_rfl)
noncomputable def r6:s7:=.row mixed noNG (aD []) 3000 false 94 [.str [88,32,88,32,50,45,52,98,32,48,45,50,98]] (av5) (by kernel_rfl)
noncomputable def r7:s7:=.row mixed noNG (aD []) 3000 false 44 [.lsl [[.str [49,116]],[.str [48]],[.str [48,45,48]],[.str [48,50,48]],[.str [51,49]],[.str [49,58,48]],[.str [111,110]]],.str [32]] (.str [49,116,32,48,32,48,45,48,32,48,50,48,32,51,49,32,49,58,48,32,111,110]) (by kernel_rfl)
end Go.Ev
namespace Go.Ev
open Go.RowKit Go.Proofs
set_option maxRecDepth 100000
set_option maxHeartbeats 4000000
noncomputable def r0:s7:=.row mixed noNG (aD []) 3000 false 20 [av3] (.int .i64 0) (by kernel_rfl)
noncomputable def r1:s7:=.row mixed noNG (aD []) 3000 false 20 [av2] (.int .i64 0) (by kernel_rfl)
noncomputable def r2:s7:=.row mixed noNG (aD []) 3000 false 69 [.str [88,32,88,32,48,45,49,98]] (.tup [av3,.int .i64 0,.int .i64 0]) (by kernel_rfl)
noncomputable def r3:s7:=.row mixed noNG (aD []) 3000 false 69 [.str [66,32,45,32,49,45,50,115]] (.tup [av2,.int .i64 0,.int .i64 0]) (by kernel_rfl)
end Go.Ev
namespace Go.Ev
open Go.RowKit Go.Proofs
set_option maxRecDepth 100000
set_option maxHeartbeats 4000000
noncomputable def r8:s7:=.row mixed noNG (aD [r4]) 3000 false 20 [av5] (.int .i64 0) (by kernel_rfl)
noncomputable def r9:s7:=.row mixed noNG (aD [r2]) 3000 false 41 [.str [88,32,88,32,48,45,49,98,10],.int .i64 0] (.tup [av3,.int .i64 0]) (by kernel_rfl)
noncomputable def r10:s7:=.row mixed noNG (aD [r3]) 3000 false 41 [.str [66,32,45,32,49,45,50,115,10],.int .i64 1] (.tup [av2,.int .i64 0]) (by kernel_rfl)
noncomputable def r11:s7:=.row mixed noNG (aD [r7]) 3000 false 19 [av6] (.tup [.str [49,116,32,48,32,48,45,48,32,48,50,48,32,51,49,32,49,58,48,32,111,110],.int .i64 0]) (by kernel_rfl)
noncomputable def r12:s7:=.row mixed noNG (aD [r0]) 3000 false 25 [.agg [.int .i64 1,.int .i64 0,.int .i64 0,.int .i64 0,.int .i64 0,.int .i64 0,.int .i64 0,.int .i64 0,.int .i64 1,.int .i64 1,.int .i64 0,.int .i64 0,.bool false],av3] (.tup [.lptr [.int .i64 1,.int .i64 0,.int .i64 0,.int .i64 0,.int .i64 0,.int .i64 0,.int .i64 0,.int .i64 0,.int .i64 1,.int .i64 1,.int .i64 0,.int .i64 0,.bool false,.str [88],.str [88],.bool false,av0,.int .i64 0,.int .i64 0,.bool true,.int .i64 0,.bool true,.bool false,.bool false,.bool false] 0,.int .i64 0,.int .i64 0]) (by kernel_rfl)
noncomputable def r13:s7:=.row mixed noNG (aD [r1]) 3000 false 25 [.agg [.int .i64 1,.int .i64 0,.int .i64 0,.int .i64 0,.int .i64 0,.int .i64 1,.int .i64 0,.int .i64 0,.int .i64 2,.int .i64 1,.int .i64 0,.int .i64 0,.bool false],av2] (.tup [.lptr [.int .i64 1,.int .i64 0,.int .i64 0,.int .i64 0,.int .i64 0,.int .i64 1,.int .i64 0,.int .i64 0,.int .i64 2,.int .i64 1,.int .i64 0,.int .i64 0,.bool false,.str [66],.str [],.bool false,av1,.int .i64 1,.int .i64 0,.bool true,.int .i64 0,.bool true,.bool true,.bool false,.bool false] 0,.int .i64 0,.int .i64 0]) (by kernel_rfl)
end Go.Ev
namespace Go.Ev
open Go.RowKit Go.Proofs
set_option maxRecDepth 100000
set_option maxHeartbeats 4000000
noncomputable def r14:s7:=.row mixed noNG (aD [r5,r6,r8]) 3000 false 69 [.str [88,32,88,32,50,45,52,98,32,48,45,50,98]] (.tup [av5,.int .i64 0,.int .i64 0]) (by kernel_rfl)
noncomputable def r15:s7:=.row mixed noNG (aD [r8]) 3000 false 25 [.agg [.int .i64 1,.int .i64 0,.int .i64 0,.int .i64 1,.int .i64 0,.int .i64 0,.int .i64 1,.int .i64 0,.int .i64 2,.int .i64 1,.int .i64 0,.int .i64 0,.bool false],av5] (.tup [.lptr [.int .i64 1,.int .i64 0,.int .i64 0,.int .i64 1,.int .i64 0,.int .i64 0,.int .i64 1,.int .i64 0,.int .i64 2,.int .i64 1,.int .i64 0,.int .i64 0,.bool false,.str [88],.str [88],.bool false,av4,.int .i64 1,.int .i64 0,.bool true,.int .i64 0,.bool true,.bool false,.bool false,.bool false] 0,.int .i64 0,.int .i64 0]) (by kernel_rfl)
end Go.Ev
namespace Go.Ev
open Go.RowKit Go.Proofs
set_option maxRecDepth 100000
set_option maxHeartbeats 4000000
noncomputable def r16:s7:=.row mixed noNG (aD [r14]) 3000 false 41 [.str [88,32,88,32,50,45,52,98,32,48,45,50,98,10],.int .i64 2] (.tup [av5,.int .i64 0]) (by kernel_rfl)
noncomputable def r17:s7:=.row mixed noNG (aD [r12,r13,r15]) 3000 false 18 [av7] (.tup [av6,.int .i64 0,.int .i64 0,.int .i64 0]) (by kernel_rfl)
end Go.Ev
namespace Go.Ev
open Go.RowKit Go.Proofs
set_option maxRecDepth 100000
set_option maxHeartbeats 4000000
noncomputable def r18:s7:=.row mixed noNG (aD [r9,r10,r16]) 3000 false 17 [.str [88,32,88,32,48,45,49,98,10,66,32,45,32,49,45,50,115,10,88,32,88,32,50,45,52,98,32,48,45,50,98,10]] (.tup [av7,.int .i64 0,.int .i64 0]) (by kernel_rfl)
end Go.Ev
namespace Go.Ev
open Go.RowKit Go.Proofs
set_option maxRecDepth 100000
set_option maxHeartbeats 4000000
theorem awTop:nF Tryz.prog (.bool true) (run Tryz.prog gT (l8 (aD [r11,r17,r18])) 3000 (.call 5 [] (H.st true)))=true:=by kernel_rfl
def F5:List EVal→Option EVal
 | []=>some (.bool true)
 | _=>none
theorem fn5:FnT 5 F5:=Fn.runE mixed noNG (aD [r11,r17,r18]) (n:=3000) (b:=true) fun a v h=>by
 unfold F5 at h
 split at h
 · cases h;exact awTop
 · cases h
end Go.Ev
