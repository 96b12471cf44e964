import Derived.Test.YtgnnhpffealmmaaGreatDoorAwk0
import Derived.Test.YtgnnhpffealmmaaGreatDoorAwk1
import Derived.Test.YtgnnhpffealmmaaGreatDoorAwk2
import Derived.Test.YtgnnhpffealmmaaGreatDoorAwk3
import Derived.Test.YtgnnhpffealmmaaGreatDoorAwk4
import Derived.Test.YtgnnhpffealmmaaGreatDoorAwk5
import Derived.Test.YtgnnhpffealmmaaGreatDoorAwk6
import Derived.Test.YtgnnhpffealmmaaGreatDoorAwk7
set_option linter.unusedSimpArgs false
set_option linter.unusedVariables false
namespace Go.Ev
open Go.RowKit Go.Proofs
set_option maxRecDepth 100000
set_option maxHeartbeats 4000000
noncomputable def aT16:List EVal→Option EVal:=tbl [([],ajV)]
theorem aK16:FnT 16 aT16:=Fn.tbl mixed noNG hD b4 (n:=3000) (by simp only [List.forall_mem_cons];exact⟨awr0,fun _ h=>by cases h⟩)
noncomputable def aT18:List EVal→Option EVal:=tbl [([.int .i64 1,.int .i64 2],aw15),([.int .i64 2,.int .i64 3],aw16),([.int .i64 3,.int .i64 2],aw17)]
theorem aK18:FnT 18 aT18:=Fn.tbl mixed noNG hD b4 (n:=3000) (by simp only [List.forall_mem_cons];exact⟨awr1,awr2,awr3,fun _ h=>by cases h⟩)
noncomputable def aT25:List EVal→Option EVal:=tbl [([],aw12)]
theorem aK25:FnT 25 aT25:=Fn.tbl mixed noNG hD b4 (n:=3000) (by simp only [List.forall_mem_cons];exact⟨awr4,fun _ h=>by cases h⟩)
noncomputable def aT15:List EVal→Option EVal:=tbl [([ajV],aw14)]
theorem aK15:FnT 15 aT15:=Fn.tbl mixed noNG hD b4 (n:=3000) (by simp only [List.forall_mem_cons];exact⟨awr5,fun _ h=>by cases h⟩)
noncomputable def aT17:List EVal→Option EVal:=tbl [([aw18,aw19],aw10)]
theorem aK17:FnT 17 aT17:=Fn.tbl mixed noNG hD b4 (n:=3000) (by simp only [List.forall_mem_cons];exact⟨awr6,fun _ h=>by cases h⟩)
noncomputable def aT19:List EVal→Option EVal:=tbl [([ajV,aw17],.tup [.agg [.lsl []],.int .i64 32])]
theorem aK19:FnT 19 aT19:=Fn.tbl mixed noNG hD b4 (n:=3000) (by simp only [List.forall_mem_cons];exact⟨awr7,fun _ h=>by cases h⟩)
noncomputable def aT20:List EVal→Option EVal:=tbl [([aw0],aw1)]
theorem aK20:FnT 20 aT20:=Fn.tbl mixed noNG hD b4 (n:=3000) (by simp only [List.forall_mem_cons];exact⟨awr8,fun _ h=>by cases h⟩)
noncomputable def aT22:List EVal→Option EVal:=tbl [([ajV,.str [97,110,110],.str [104]],aw2)]
theorem aK22:FnT 22 aT22:=Fn.tbl mixed noNG hD b4 (n:=3000) (by simp only [List.forall_mem_cons];exact⟨awr9,fun _ h=>by cases h⟩)
noncomputable def aT23:List EVal→Option EVal:=tbl [([ajV],aw9)]
theorem aK23:FnT 23 aT23:=Fn.tbl mixed noNG hD b4 (n:=3000) (by simp only [List.forall_mem_cons];exact⟨awr10,fun _ h=>by cases h⟩)
noncomputable def aT24:List EVal→Option EVal:=tbl [([aw12],aw11)]
theorem aK24:FnT 24 aT24:=Fn.tbl mixed noNG hD b4 (n:=3000) (by simp only [List.forall_mem_cons];exact⟨awr11,fun _ h=>by cases h⟩)
noncomputable def aT29:List EVal→Option EVal:=tbl [([.agg [.int .i64 5,.int .i64 1,.int .i64 1,.int .i64 3]],.int .i64 1)]
theorem aK29:FnT 29 aT29:=Fn.tbl mixed noNG hD b4 (n:=3000) (by simp only [List.forall_mem_cons];exact⟨awr12,fun _ h=>by cases h⟩)
noncomputable def aT21:List EVal→Option EVal:=tbl [([.agg [.int .i64 4,.int .i64 2,.int .i64 1,.int .i64 2],.agg [.int .i64 1,.int .i64 1,.int .i64 1,.int .i64 1]],aw3)]
theorem aK21:FnT 21 aT21:=Fn.tbl mixed noNG hD b4 (n:=3000) (by simp only [List.forall_mem_cons];exact⟨awr13,fun _ h=>by cases h⟩)
noncomputable def aT26:List EVal→Option EVal:=tbl [([aw13,.str [104],.str [97,98],.int .i64 3,.int .i64 1],aw4),([aw13,.str [104],.str [97,98],.int .i64 3,.int .i64 2],aw7)]
theorem aK26:FnT 26 aT26:=Fn.tbl mixed noNG hD b4 (n:=3000) (by simp only [List.forall_mem_cons];exact⟨awr14,awr15,fun _ h=>by cases h⟩)
noncomputable def aT27:List EVal→Option EVal:=tbl [([aw8,.str [104],.str [97,98]],.tup [.agg [.int .i64 1,.int .i64 4],.int .i64 0])]
theorem aK27:FnT 27 aT27:=Fn.tbl mixed noNG hD b4 (n:=3000) (by simp only [List.forall_mem_cons];exact⟨awr16,fun _ h=>by cases h⟩)
noncomputable def aT28:List EVal→Option EVal:=tbl [([aw5,aw6],.tup [.int .i64 2,.int .i64 0])]
theorem aK28:FnT 28 aT28:=Fn.tbl mixed noNG hD b4 (n:=3000) (by simp only [List.forall_mem_cons];exact⟨awr17,fun _ h=>by cases h⟩)
theorem awTop:aK Tryz.prog (.bool true) (run Tryz.prog gT (aR [(16,aT16),(18,aT18),(25,aT25),(15,aT15),(17,aT17),(19,aT19),(20,aT20),(22,aT22),(23,aT23),(24,aT24),(29,aT29),(21,aT21),(26,aT26),(27,aT27),(28,aT28)]) 3000 (.call 4 [] H.start8))=true:=by kernel_rfl
def F4:List EVal→Option EVal
 | []=>some (.bool true)
 | _=>none
theorem fn4:FnT 4 F4:=Fn.run8 mixed noNG [(16,aT16),(18,aT18),(25,aT25),(15,aT15),(17,aT17),(19,aT19),(20,aT20),(22,aT22),(23,aT23),(24,aT24),(29,aT29),(21,aT21),(26,aT26),(27,aT27),(28,aT28)] (by simp only [List.forall_mem_cons];exact⟨aK16,aK18,aK25,aK15,aK17,aK19,aK20,aK22,aK23,aK24,aK29,aK21,aK26,aK27,aK28,fun _ h=>by cases h⟩) (n:=3000) (fun a v h=>by
 unfold F4 at h
 split at h
 · cases h;exact awTop
 · cases h)
end Go.Ev
