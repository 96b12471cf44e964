import Derived.Test.YthdehohoafhnjaaGreatDoorEvD
import Derived.Test.YthdehohoafhnjaaGreatDoorDBase
import Derived.Test.YthdehohoafhnjaaGreatDoorAwk
set_option linter.unusedSimpArgs false
set_option linter.unusedVariables false
namespace Go.Ev
open Go.RowKit Go.Proofs
set_option maxRecDepth 100000
set_option maxHeartbeats 4000000
set_option linter.unusedVariables false
noncomputable section
noncomputable def Aw4 : Row Unit := Row.nil
noncomputable def Sw4 (_ : Unit) : Option Bool := some true
theorem fnw4 : Fn Tryz.prog gT 4 (fOf Aw4 cB Sw4) := fun B0 W0 G a v hF => fn4 B0 W0 G a v (by
 obtain ⟨x, r, rfl, h, rfl⟩ := fOf_inv hF
 cases h
 rfl)
noncomputable def Kw4 : Con Tryz.prog gT := Con.of 4 Aw4 cB Sw4 fnw4
noncomputable def Az33 := (Row.cons (Cod.agg rLu) (Row.cons cS Row.nil))
noncomputable def oG (s : Lu) (t : List Nat) : Tr Int Empty noS cI.v := (.i (decide (s.b0 = t)) (.r 1) (.i (decide (s.b1 = t)) (.r 2) (.i (decide (s.b2 = t)) (.r 3) (.i (decide (s.b3 = t)) (.r 4) (.i (decide (s.b4 = t)) (.r 5) (.i (decide (s.b5 = t)) (.r 6) (.i (decide (s.b6 = t)) (.r 7) (.i (decide (s.b7 = t)) (.r 8) (.i (decide (s.b8 = t)) (.r 9) (.r 0))))))))))
noncomputable def Ez33 (s : Lu) (t : List Nat) := (oG s t).d noE
noncomputable def Sz33 (x : Lu × (List Nat) × Unit) := Ez33 x.1 x.2.1
noncomputable def wz33 : Wk (Lu × (List Nat) × Unit) Int Empty cI.v := wk0 fun x => oG x.1 x.2.1
noncomputable def Kz33 := j1 33 Tryz.func33 [] noZ ⟨16, noL, noL, (lookA [(2, ⟨79, 100000, 4, 23, [], [3, 4, 8]⟩)])⟩ 128 Az33 cI Sz33 wz33 (fun _ => 0)
noncomputable def pZ := (Row.cons (Cod.agg rLu) (Row.cons cS Row.nil))
noncomputable def Tz36 (s : Lu) (t : List Nat) : Tr Int Empty noS cI.v := (.i (decide (s.b0 = t)) (.r 1) (.i (decide (s.b1 = t)) (.r 2) (.i (decide (s.b2 = t)) (.r 3) (.i (decide (s.b3 = t)) (.r 4) (.i (decide (s.b4 = t)) (.r 5) (.i (decide (s.b5 = t)) (.r 6) (.i (decide (s.b6 = t)) (.r 7) (.i (decide (s.b7 = t)) (.r 8) (.i (decide (s.b8 = t)) (.r 9) (.r 0))))))))))
noncomputable def Ez36 (s : Lu) (t : List Nat) := (Tz36 s t).d noE
noncomputable def oV (x : Lu × (List Nat) × Unit) := Ez36 x.1 x.2.1
noncomputable def wz36 : Wk (Lu × (List Nat) × Unit) Int Empty cI.v := wk0 fun x => Tz36 x.1 x.2.1
noncomputable def Kz36 := j1 36 Tryz.func36 [] noZ ⟨18, noL, noL, noL⟩ 128 pZ cI oV wz36 (fun _ => 0)
noncomputable def Af136 := (Row.cons cI (Row.cons cI (Row.cons cI Row.nil)))
noncomputable def ajp (s : Int) (t : Int) (u : Int) : Tr Bool Empty noS cB.v := (.i (decide (t ≤ s)) (.r (decide (s ≤ u))) (.r false))
noncomputable def Ef136 (s : Int) (t : Int) (u : Int) := (ajp s t u).d noE
noncomputable def Sf136 (x : Int × Int × Int × Unit) := Ef136 x.1 x.2.1 x.2.2.1
noncomputable def wf136 : Wk (Int × Int × Int × Unit) Bool Empty cB.v := wk0 fun x => ajp x.1 x.2.1 x.2.2.1
noncomputable def Kf136 := j1 111 Tryz.func111 [] noZ ⟨15, noL, noL, noL⟩ 128 Af136 cB Sf136 wf136 (fun _ => 0)
noncomputable def Az128 := (Row.cons (cInt .i32) Row.nil)
noncomputable def ajm (s : Int) : Tr Bool Empty noS cB.v := (.i (decide (97 ≤ s)) (.r (decide (s ≤ 122))) (.r false))
noncomputable def Ez128 (s : Int) := (ajm s).d noE
noncomputable def Sz128 (x : Int × Unit) := Ez128 x.1
noncomputable def wz128 : Wk (Int × Unit) Bool Empty cB.v := wk0 fun x => ajm x.1
noncomputable def Kz128 := j1 128 Tryz.func128 [] noZ ⟨9, noL, noL, noL⟩ 128 Az128 cB Sz128 wz128 (fun _ => 0)
noncomputable def Az112 := (Row.cons (cInt .i32) Row.nil)
noncomputable def ajo (s : Int) : Tr Bool Empty noS cB.v := (.c Az128 Sz128 (s, ()) fun r2 => (.i r2 (.r true) (.i (decide (65 ≤ s)) (.r (decide (s ≤ 90))) (.r false))))
noncomputable def Ez112 (s : Int) := (ajo s).d noE
noncomputable def Sz112 (x : Int × Unit) := Ez112 x.1
noncomputable def wz112 : Wk (Int × Unit) Bool Empty cB.v := wk0 fun x => ajo x.1
noncomputable def Kz112 := j1 112 Tryz.func112 [Kz128] noZ ⟨13, noL, noL, noL⟩ 128 Az112 cB Sz112 wz112 (fun _ => 0)
noncomputable def Az113 := (Row.cons (cInt .i32) Row.nil)
noncomputable def ajn (s : Int) : Tr Bool Empty noS cB.v := (.i (decide (48 ≤ s)) (.r (decide (s ≤ 57))) (.r false))
noncomputable def Ez113 (s : Int) := (ajn s).d noE
noncomputable def Sz113 (x : Int × Unit) := Ez113 x.1
noncomputable def wz113 : Wk (Int × Unit) Bool Empty cB.v := wk0 fun x => ajn x.1
noncomputable def Kz113 := j1 113 Tryz.func113 [] noZ ⟨9, noL, noL, noL⟩ 128 Az113 cB Sz113 wz113 (fun _ => 0)
noncomputable def aqy := (Row.cons cS Row.nil)
inductive Lz77 where
 | k8 (x4 : Nat)
noncomputable def uz77 : Lz77 → Nat
 | .k8 _ => 8
noncomputable def sLz77 (s : List Nat) : Lz77 → D
 | .k8 x4 => mD [(10, .ptr 0 0)] 1 [(0, .iter s x4)] 128 []
noncomputable def vS (s : List Nat) : (l_ : Lz77) → Tr Bool Lz77 (sLz77 s) cB.v
 | .k8 x4 => (.i (Nat.blt x4 s.length) (.c Az112 Sz112 ((((jD s x4).1 : Nat) : Int), ()) fun r9 => (.i (!r9) (.i (((x4 : Nat) : Int) == 0) (.r false) (.c Az113 Sz113 ((((jD s x4).1 : Nat) : Int), ()) fun r10 => (.i (!r10) (.i (!((((jD s x4).1 : Nat) : Int) == 95)) (.r false) (.g (.k8 (x4 + (jD s x4).2)))) (.g (.k8 (x4 + (jD s x4).2)))))) (.g (.k8 (x4 + (jD s x4).2))))) (.r true))
noncomputable def Tz77 (s : List Nat) : Tr Bool Lz77 (sLz77 s) cB.v := (.c Af136 Sf136 (((s.length : Nat) : Int), 1, 24, ()) fun r8 => (.i (!r8) (.r false) (.g (.k8 0))))
noncomputable def Ez77J (s : List Nat) := Tr.lp (vS s)
noncomputable def Ez77 (n : Nat) (s : List Nat) := (Tz77 s).d (Ez77J s n)
noncomputable def aql (x : (List Nat) × Unit) := Ez77 (x.1.length + 64) x.1
noncomputable def wz77 : Wk ((List Nat) × Unit) Bool Lz77 cB.v := ⟨fun x => sLz77 x.1, uz77, fun x => Tz77 x.1, fun x => vS x.1⟩
noncomputable def Kz77 := j1 77 Tryz.func77 [Kf136, Kz112, Kz113] noZ ⟨31, (lookA [(4, ⟨[10], [0], 1, [], [], []⟩)]), noL, noL⟩ 128 aqy cB aql wz77 (fun x => x.1.length + 64)
noncomputable def Az63 := (Row.cons (Cod.agg rLu) Row.nil)
noncomputable def Tz63 (s : Lu) : Tr Int Empty noS cI.v := (.c aqy aql (s.b0, ()) fun r10 => (.i (!r10) (.r 8) (.i (decide (s.b0 ∈ [])) (.r 9) (.c aqy aql (s.b1, ()) fun r11 => (.i (!r11) (.r 8) (.i (decide (s.b1 ∈ (insK [] s.b0))) (.r 9) (.c aqy aql (s.b2, ()) fun r12 => (.i (!r12) (.r 8) (.i (decide (s.b2 ∈ (insK (insK [] s.b0) s.b1))) (.r 9) (.c aqy aql (s.b3, ()) fun r13 => (.i (!r13) (.r 8) (.i (decide (s.b3 ∈ (insK (insK (insK [] s.b0) s.b1) s.b2))) (.r 9) (.c aqy aql (s.b4, ()) fun r14 => (.i (!r14) (.r 8) (.i (decide (s.b4 ∈ (insK (insK (insK (insK [] s.b0) s.b1) s.b2) s.b3))) (.r 9) (.c aqy aql (s.b5, ()) fun r15 => (.i (!r15) (.r 8) (.i (decide (s.b5 ∈ (insK (insK (insK (insK (insK [] s.b0) s.b1) s.b2) s.b3) s.b4))) (.r 9) (.c aqy aql (s.b6, ()) fun r16 => (.i (!r16) (.r 8) (.i (decide (s.b6 ∈ (insK (insK (insK (insK (insK (insK [] s.b0) s.b1) s.b2) s.b3) s.b4) s.b5))) (.r 9) (.c aqy aql (s.b7, ()) fun r17 => (.i (!r17) (.r 8) (.i (decide (s.b7 ∈ (insK (insK (insK (insK (insK (insK (insK [] s.b0) s.b1) s.b2) s.b3) s.b4) s.b5) s.b6))) (.r 9) (.c aqy aql (s.b8, ()) fun r18 => (.i (!r18) (.r 8) (.i (decide (s.b8 ∈ (insK (insK (insK (insK (insK (insK (insK (insK [] s.b0) s.b1) s.b2) s.b3) s.b4) s.b5) s.b6) s.b7))) (.r 9) (.r 0))))))))))))))))))))))))))))
noncomputable def Ez63 (s : Lu) := (Tz63 s).d noE
noncomputable def Sz63 (x : Lu × Unit) := Ez63 x.1
noncomputable def wz63 : Wk (Lu × Unit) Int Empty cI.v := wk0 fun x => Tz63 x.1
noncomputable def Kz63 := j1 63 Tryz.func63 [Kz77] noZ ⟨22, noL, noL, (lookA [(3, ⟨79, 100000, 5, 23, [], [2, 3, 8]⟩)])⟩ 128 Az63 cI Sz63 wz63 (fun _ => 0)
noncomputable def Az65 := (Row.cons cI (Row.cons cI (Row.cons cI Row.nil)))
noncomputable def Tz65 (s : Int) (t : Int) (u : Int) : Tr Bool Empty noS cB.v := (.i (decide (t ≤ s)) (.r (decide (s ≤ u))) (.r false))
noncomputable def Ez65 (s : Int) (t : Int) (u : Int) := (Tz65 s t u).d noE
noncomputable def Sz65 (x : Int × Int × Int × Unit) := Ez65 x.1 x.2.1 x.2.2.1
noncomputable def wz65 : Wk (Int × Int × Int × Unit) Bool Empty cB.v := wk0 fun x => Tz65 x.1 x.2.1 x.2.2.1
noncomputable def Kz65 := j1 65 Tryz.func65 [] noZ ⟨15, noL, noL, noL⟩ 128 Az65 cB Sz65 wz65 (fun _ => 0)
noncomputable def yN := (Row.cons cI Row.nil)
noncomputable def Tz29 (s : Int) : Tr Int Empty noS cI.v := (.c Az65 Sz65 (s, 1, 9, ()) fun r2 => (.i (!r2) (.r 3) (.r 0)))
noncomputable def Ez29 (s : Int) := (Tz29 s).d noE
noncomputable def yJ (x : Int × Unit) := Ez29 x.1
noncomputable def wz29 : Wk (Int × Unit) Int Empty cI.v := wk0 fun x => Tz29 x.1
noncomputable def Kz29 := j1 29 Tryz.func29 [Kz65] noZ ⟨6, noL, noL, noL⟩ 128 yN cI yJ wz29 (fun _ => 0)
noncomputable def Az64 := (Row.cons (Cod.agg rLu) Row.nil)
noncomputable def Tz64 (s : Lu) : Tr Int Empty noS cI.v := (.c yN yJ (s.p0, ()) fun r10 => (.i (!(r10 == 0)) (.r r10) (.i (decide (s.p0 ∈ [])) (.r 29) (.c yN yJ (s.p1, ()) fun r11 => (.i (!(r11 == 0)) (.r r11) (.i (decide (s.p1 ∈ (insK [] s.p0))) (.r 29) (.c yN yJ (s.p2, ()) fun r12 => (.i (!(r12 == 0)) (.r r12) (.i (decide (s.p2 ∈ (insK (insK [] s.p0) s.p1))) (.r 29) (.c yN yJ (s.p3, ()) fun r13 => (.i (!(r13 == 0)) (.r r13) (.i (decide (s.p3 ∈ (insK (insK (insK [] s.p0) s.p1) s.p2))) (.r 29) (.c yN yJ (s.p4, ()) fun r14 => (.i (!(r14 == 0)) (.r r14) (.i (decide (s.p4 ∈ (insK (insK (insK (insK [] s.p0) s.p1) s.p2) s.p3))) (.r 29) (.c yN yJ (s.p5, ()) fun r15 => (.i (!(r15 == 0)) (.r r15) (.i (decide (s.p5 ∈ (insK (insK (insK (insK (insK [] s.p0) s.p1) s.p2) s.p3) s.p4))) (.r 29) (.c yN yJ (s.p6, ()) fun r16 => (.i (!(r16 == 0)) (.r r16) (.i (decide (s.p6 ∈ (insK (insK (insK (insK (insK (insK [] s.p0) s.p1) s.p2) s.p3) s.p4) s.p5))) (.r 29) (.c yN yJ (s.p7, ()) fun r17 => (.i (!(r17 == 0)) (.r r17) (.i (decide (s.p7 ∈ (insK (insK (insK (insK (insK (insK (insK [] s.p0) s.p1) s.p2) s.p3) s.p4) s.p5) s.p6))) (.r 29) (.c yN yJ (s.p8, ()) fun r18 => (.i (!(r18 == 0)) (.r r18) (.i (decide (s.p8 ∈ (insK (insK (insK (insK (insK (insK (insK (insK [] s.p0) s.p1) s.p2) s.p3) s.p4) s.p5) s.p6) s.p7))) (.r 29) (.r 0))))))))))))))))))))))))))))
noncomputable def Ez64 (s : Lu) := (Tz64 s).d noE
noncomputable def Sz64 (x : Lu × Unit) := Ez64 x.1
noncomputable def wz64 : Wk (Lu × Unit) Int Empty cI.v := wk0 fun x => Tz64 x.1
noncomputable def Kz64 := j1 64 Tryz.func64 [Kz29] noZ ⟨25, noL, noL, (lookA [(3, ⟨79, 100000, 5, 23, [], [2, 3, 9]⟩)])⟩ 128 Az64 cI Sz64 wz64 (fun _ => 0)
noncomputable def Az27 := (Row.cons (Cod.list 0 fR) Row.nil)
inductive Lz27 where
 | k4 (x1 : Int)
noncomputable def uz27 : Lz27 → Nat
 | .k4 _ => 4
noncomputable def sLz27 (s : List (Int)) : Lz27 → D
 | .k4 x1 => mD [(5, (Cod.list 0 fR).v s), (6, .int .i64 ((s.length : Nat) : Int)), (7, .int .i64 x1)] 0 [] 128 []
noncomputable def oU (s : List (Int)) : (l_ : Lz27) → Tr Int Lz27 (sLz27 s) cI.v
 | .k4 x1 => (.i (decide (x1 < ((s.length : Nat) : Int))) (.i (inR x1 s.length) (.i (!((s.getD x1.toNat 0) == 0)) (.r (s.getD x1.toNat 0)) (.g (.k4 (w6 (x1 + 1))))) .n) (.r 0))
noncomputable def Tz27 (s : List (Int)) : Tr Int Lz27 (sLz27 s) cI.v := (.g (.k4 0))
noncomputable def aqq (s : List (Int)) := Tr.lp (oU s)
theorem iV {s : List (Int)} {n : Nat} {l_ : Lz27} : aqq s (n + 1) l_ = (oU s l_).d (aqq s n) := rfl
noncomputable def Ez27 (n : Nat) (s : List (Int)) := (Tz27 s).d (aqq s n)
noncomputable def Sz27 (x : (List (Int)) × Unit) := Ez27 (x.1.length + 64) x.1
noncomputable def wz27 : Wk ((List (Int)) × Unit) Int Lz27 cI.v := ⟨fun x => sLz27 x.1, uz27, fun x => Tz27 x.1, fun x => oU x.1⟩
noncomputable def Kz27 := j1 27 Tryz.func27 [] noZ ⟨15, (lookA [(2, ⟨[5, 6, 7], [], 0, [], [], []⟩)]), noL, noL⟩ 128 Az27 cI Sz27 wz27 (fun x => x.1.length + 64)
noncomputable def Az28 := (Row.cons (Cod.agg rLu) Row.nil)
noncomputable def Tz28 (s : Lu) : Tr Int Empty noS cI.v := (.c Az63 Sz63 (s, ()) fun r4 => (.c Az64 Sz64 (s, ()) fun r5 => (.c Az27 Sz27 ([r4, r5], ()) fun r6 => (.r r6))))
noncomputable def Ez28 (s : Lu) := (Tz28 s).d noE
noncomputable def Sz28 (x : Lu × Unit) := Ez28 x.1
noncomputable def wz28 : Wk (Lu × Unit) Int Empty cI.v := wk0 fun x => Tz28 x.1
noncomputable def Kz28 := j1 28 Tryz.func28 [Kz27, Kz63, Kz64] noZ ⟨9, noL, noL, noL⟩ 128 Az28 cI Sz28 wz28 (fun _ => 0)
noncomputable def Az66 := (Row.cons cU8 Row.nil)
noncomputable def Tz66 (s : Int) : Tr Bool Empty noS cB.v := (.i (decide (65 ≤ s)) (.i (decide (s ≤ 90)) (.r true) (.i (decide (97 ≤ s)) (.r (decide (s ≤ 122))) (.r false))) (.i (decide (97 ≤ s)) (.r (decide (s ≤ 122))) (.r false)))
noncomputable def Ez66 (s : Int) := (Tz66 s).d noE
noncomputable def Sz66 (x : Int × Unit) := Ez66 x.1
noncomputable def wz66 : Wk (Int × Unit) Bool Empty cB.v := wk0 fun x => Tz66 x.1
noncomputable def Kz66 := j1 66 Tryz.func66 [] noZ ⟨17, noL, noL, noL⟩ 128 Az66 cB Sz66 wz66 (fun _ => 0)
noncomputable def Az67 := (Row.cons cU8 Row.nil)
noncomputable def Tz67 (s : Int) : Tr Bool Empty noS cB.v := (.i (decide (48 ≤ s)) (.r (decide (s ≤ 57))) (.r false))
noncomputable def Ez67 (s : Int) := (Tz67 s).d noE
noncomputable def Sz67 (x : Int × Unit) := Ez67 x.1
noncomputable def wz67 : Wk (Int × Unit) Bool Empty cB.v := wk0 fun x => Tz67 x.1
noncomputable def Kz67 := j1 67 Tryz.func67 [] noZ ⟨9, noL, noL, noL⟩ 128 Az67 cB Sz67 wz67 (fun _ => 0)
noncomputable def aqz := (Row.cons cS Row.nil)
inductive Lz34 where
 | k8 (x4 : Int)
noncomputable def uz34 : Lz34 → Nat
 | .k8 _ => 8
noncomputable def sLz34 (s : List Nat) : Lz34 → D
 | .k8 x4 => mD [(0, .str s), (3, .int .i64 x4)] 0 [] 128 []
noncomputable def yI (s : List Nat) : (l_ : Lz34) → Tr Bool Lz34 (sLz34 s) cB.v
 | .k8 x4 => (.i (decide (x4 < ((s.length : Nat) : Int))) (.i (inR x4 s.length) (.c Az66 Sz66 (((s.getD x4.toNat 0 : Nat) : Int), ()) fun r9 => (.i (!r9) (.i (inR x4 s.length) (.c Az67 Sz67 (((s.getD x4.toNat 0 : Nat) : Int), ()) fun r10 => (.i (!r10) (.i (inR x4 s.length) (.i (!(((s.getD x4.toNat 0 : Nat) : Int) == 95)) (.r false) (.g (.k8 (w6 (x4 + 1))))) .n) (.g (.k8 (w6 (x4 + 1)))))) .n) (.g (.k8 (w6 (x4 + 1)))))) .n) (.r true))
noncomputable def Tz34 (s : List Nat) : Tr Bool Lz34 (sLz34 s) cB.v := (.i (((s.length : Nat) : Int) == 0) (.r false) (.i (decide (24 < ((s.length : Nat) : Int))) (.r false) (.i (inR 0 s.length) (.c Az66 Sz66 (((s.getD 0 0 : Nat) : Int), ()) fun r8 => (.i (!r8) (.r false) (.g (.k8 0)))) .n)))
noncomputable def Ez34J (s : List Nat) := Tr.lp (yI s)
noncomputable def Ez34 (n : Nat) (s : List Nat) := (Tz34 s).d (Ez34J s n)
noncomputable def aqm (x : (List Nat) × Unit) := Ez34 (x.1.length + 64) x.1
noncomputable def wz34 : Wk ((List Nat) × Unit) Bool Lz34 cB.v := ⟨fun x => sLz34 x.1, uz34, fun x => Tz34 x.1, fun x => yI x.1⟩
noncomputable def Kz34 := j1 34 Tryz.func34 [Kz66, Kz67] noZ ⟨42, (lookA [(4, ⟨[0, 3], [], 0, [], [], []⟩)]), noL, noL⟩ 128 aqz cB aqm wz34 (fun x => x.1.length + 64)
noncomputable def Az7 := (Row.cons (Cod.agg rLu) Row.nil)
noncomputable def Tz7 (s : Lu) : Tr Int Empty noS cI.v := (.c aqz aqm (s.b0, ()) fun r10 => (.i (!r10) (.r 8) (.c aqz aqm (s.b1, ()) fun r11 => (.i (!r11) (.r 8) (.i (decide (s.b0 = s.b1)) (.r 9) (.c aqz aqm (s.b2, ()) fun r12 => (.i (!r12) (.r 8) (.i (decide (s.b0 = s.b2)) (.r 9) (.i (decide (s.b1 = s.b2)) (.r 9) (.c aqz aqm (s.b3, ()) fun r13 => (.i (!r13) (.r 8) (.i (decide (s.b0 = s.b3)) (.r 9) (.i (decide (s.b1 = s.b3)) (.r 9) (.i (decide (s.b2 = s.b3)) (.r 9) (.c aqz aqm (s.b4, ()) fun r14 => (.i (!r14) (.r 8) (.i (decide (s.b0 = s.b4)) (.r 9) (.i (decide (s.b1 = s.b4)) (.r 9) (.i (decide (s.b2 = s.b4)) (.r 9) (.i (decide (s.b3 = s.b4)) (.r 9) (.c aqz aqm (s.b5, ()) fun r15 => (.i (!r15) (.r 8) (.i (decide (s.b0 = s.b5)) (.r 9) (.i (decide (s.b1 = s.b5)) (.r 9) (.i (decide (s.b2 = s.b5)) (.r 9) (.i (decide (s.b3 = s.b5)) (.r 9) (.i (decide (s.b4 = s.b5)) (.r 9) (.c aqz aqm (s.b6, ()) fun r16 => (.i (!r16) (.r 8) (.i (decide (s.b0 = s.b6)) (.r 9) (.i (decide (s.b1 = s.b6)) (.r 9) (.i (decide (s.b2 = s.b6)) (.r 9) (.i (decide (s.b3 = s.b6)) (.r 9) (.i (decide (s.b4 = s.b6)) (.r 9) (.i (decide (s.b5 = s.b6)) (.r 9) (.c aqz aqm (s.b7, ()) fun r17 => (.i (!r17) (.r 8) (.i (decide (s.b0 = s.b7)) (.r 9) (.i (decide (s.b1 = s.b7)) (.r 9) (.i (decide (s.b2 = s.b7)) (.r 9) (.i (decide (s.b3 = s.b7)) (.r 9) (.i (decide (s.b4 = s.b7)) (.r 9) (.i (decide (s.b5 = s.b7)) (.r 9) (.i (decide (s.b6 = s.b7)) (.r 9) (.c aqz aqm (s.b8, ()) fun r18 => (.i (!r18) (.r 8) (.i (decide (s.b0 = s.b8)) (.r 9) (.i (decide (s.b1 = s.b8)) (.r 9) (.i (decide (s.b2 = s.b8)) (.r 9) (.i (decide (s.b3 = s.b8)) (.r 9) (.i (decide (s.b4 = s.b8)) (.r 9) (.i (decide (s.b5 = s.b8)) (.r 9) (.i (decide (s.b6 = s.b8)) (.r 9) (.i (decide (s.b7 = s.b8)) (.r 9) (.i (decide (s.p0 < 1)) (.r 3) (.i (decide (9 < s.p0)) (.r 3) (.i (decide (s.p1 < 1)) (.r 3) (.i (decide (9 < s.p1)) (.r 3) (.i (s.p0 == s.p1) (.r 29) (.i (decide (s.p2 < 1)) (.r 3) (.i (decide (9 < s.p2)) (.r 3) (.i (s.p0 == s.p2) (.r 29) (.i (s.p1 == s.p2) (.r 29) (.i (decide (s.p3 < 1)) (.r 3) (.i (decide (9 < s.p3)) (.r 3) (.i (s.p0 == s.p3) (.r 29) (.i (s.p1 == s.p3) (.r 29) (.i (s.p2 == s.p3) (.r 29) (.i (decide (s.p4 < 1)) (.r 3) (.i (decide (9 < s.p4)) (.r 3) (.i (s.p0 == s.p4) (.r 29) (.i (s.p1 == s.p4) (.r 29) (.i (s.p2 == s.p4) (.r 29) (.i (s.p3 == s.p4) (.r 29) (.i (decide (s.p5 < 1)) (.r 3) (.i (decide (9 < s.p5)) (.r 3) (.i (s.p0 == s.p5) (.r 29) (.i (s.p1 == s.p5) (.r 29) (.i (s.p2 == s.p5) (.r 29) (.i (s.p3 == s.p5) (.r 29) (.i (s.p4 == s.p5) (.r 29) (.i (decide (s.p6 < 1)) (.r 3) (.i (decide (9 < s.p6)) (.r 3) (.i (s.p0 == s.p6) (.r 29) (.i (s.p1 == s.p6) (.r 29) (.i (s.p2 == s.p6) (.r 29) (.i (s.p3 == s.p6) (.r 29) (.i (s.p4 == s.p6) (.r 29) (.i (s.p5 == s.p6) (.r 29) (.i (decide (s.p7 < 1)) (.r 3) (.i (decide (9 < s.p7)) (.r 3) (.i (s.p0 == s.p7) (.r 29) (.i (s.p1 == s.p7) (.r 29) (.i (s.p2 == s.p7) (.r 29) (.i (s.p3 == s.p7) (.r 29) (.i (s.p4 == s.p7) (.r 29) (.i (s.p5 == s.p7) (.r 29) (.i (s.p6 == s.p7) (.r 29) (.i (decide (s.p8 < 1)) (.r 3) (.i (decide (9 < s.p8)) (.r 3) (.i (s.p0 == s.p8) (.r 29) (.i (s.p1 == s.p8) (.r 29) (.i (s.p2 == s.p8) (.r 29) (.i (s.p3 == s.p8) (.r 29) (.i (s.p4 == s.p8) (.r 29) (.i (s.p5 == s.p8) (.r 29) (.i (s.p6 == s.p8) (.r 29) (.i (s.p7 == s.p8) (.r 29) (.r 0)))))))))))))))))))))))))))))))))))))))))))))))))))))))))))))))))))))))))))))))))))))))))))))))))))))))))))))
noncomputable def Ez7 (s : Lu) := (Tz7 s).d noE
noncomputable def Sz7 (x : Lu × Unit) := Ez7 x.1
noncomputable def wz7 : Wk (Lu × Unit) Int Empty cI.v := wk0 fun x => Tz7 x.1
noncomputable def Kz7 := j1 7 Tryz.func7 [Kz34] noZ ⟨61, noL, noL, noL⟩ 128 Az7 cI Sz7 wz7 (fun _ => 0)
noncomputable def Az30 := (Row.cons (Cod.agg rLu) (Row.cons (Cod.list [] rT) Row.nil))
inductive Lz30 where
 | k8 (x2 : Int)
noncomputable def uz30 : Lz30 → Nat
 | .k8 _ => 8
noncomputable def sLz30 (s : Lu) (t : List (List Nat)) : Lz30 → D
 | .k8 x2 => mD [(2, .ptr 0 0), (10, (Cod.list [] rT).v t), (11, .int .i64 ((t.length : Nat) : Int)), (12, .int .i64 x2)] 1 [(0, .row ⟨(rLu.v s), 33, false⟩)] 128 []
noncomputable def aqi (s : Lu) (t : List (List Nat)) : (l_ : Lz30) → Tr Int Lz30 (sLz30 s t) cI.v
 | .k8 x2 => (.i (decide (x2 < ((t.length : Nat) : Int))) (.i (inR x2 t.length) (.c Az33 Sz33 (s, (t.getD x2.toNat []), ()) fun r4 => (.i (r4 == 0) (.r 10) (.g (.k8 (w6 (x2 + 1)))))) .n) (.r 0))
noncomputable def Tz30 (s : Lu) (t : List (List Nat)) : Tr Int Lz30 (sLz30 s t) cI.v := (.i (decide (256 < ((t.length : Nat) : Int))) (.r 5) (.g (.k8 0)))
noncomputable def aqp (s : Lu) (t : List (List Nat)) := Tr.lp (aqi s t)
theorem aqo {s : Lu} {t : List (List Nat)} {n : Nat} {l_ : Lz30} : aqp s t (n + 1) l_ = (aqi s t l_).d (aqp s t n) := rfl
noncomputable def Ez30 (n : Nat) (s : Lu) (t : List (List Nat)) := (Tz30 s t).d (aqp s t n)
noncomputable def Sz30 (x : Lu × (List (List Nat)) × Unit) := Ez30 (x.2.1.length + 64) x.1 x.2.1
noncomputable def wz30 : Wk (Lu × (List (List Nat)) × Unit) Int Lz30 cI.v := ⟨fun x => sLz30 x.1 x.2.1, uz30, fun x => Tz30 x.1 x.2.1, fun x => aqi x.1 x.2.1⟩
noncomputable def Kz30 := j1 30 Tryz.func30 [Kz33] noZ ⟨21, (lookA [(4, ⟨[2, 10, 11, 12], [0], 1, [], [], []⟩)]), noL, noL⟩ 128 Az30 cI Sz30 wz30 (fun x => x.2.1.length + 64)
noncomputable def Af64 := (Row.cons cI (Row.cons cI (Row.cons cI Row.nil)))
noncomputable def Tf64 (s : Int) (t : Int) (u : Int) : Tr Int Empty noS cI.v := (.i (decide (s < t)) (.r 3) (.i (decide (u < s)) (.r 3) (.r 0)))
noncomputable def Ef64 (s : Int) (t : Int) (u : Int) := (Tf64 s t u).d noE
noncomputable def Sf64 (x : Int × Int × Int × Unit) := Ef64 x.1 x.2.1 x.2.2.1
noncomputable def wf64 : Wk (Int × Int × Int × Unit) Int Empty cI.v := wk0 fun x => Tf64 x.1 x.2.1 x.2.2.1
noncomputable def Kf64 := j1 35 Tryz.func35 [] noZ ⟨15, noL, noL, noL⟩ 128 Af64 cI Sf64 wf64 (fun _ => 0)
noncomputable def Az8 := (Row.cons (Cod.agg rLu) (Row.cons cI (Row.cons (Cod.list [] rT) Row.nil)))
inductive Lz8 where
 | k12 (x3 : Int)
noncomputable def uz8 : Lz8 → Nat
 | .k12 _ => 12
noncomputable def sLz8 (s : Lu) (t : Int) (u : List (List Nat)) : Lz8 → D
 | .k12 x3 => mD [(2, (Cod.list [] rT).v u), (3, .ptr 0 0), (7, .int .i64 x3)] 1 [(0, .row ⟨(rLu.v s), 25, false⟩)] 128 []
noncomputable def Tz8J (s : Lu) (t : Int) (u : List (List Nat)) : (l_ : Lz8) → Tr Int Lz8 (sLz8 s t u) cI.v
 | .k12 x3 => (.i (decide (x3 < ((u.length : Nat) : Int))) (.i (inR x3 u.length) (.c pZ oV (s, (u.getD x3.toNat []), ()) fun r7 => (.i (r7 == 0) (.r 10) (.g (.k12 (w6 (x3 + 1)))))) .n) (.r 0))
noncomputable def Tz8 (s : Lu) (t : Int) (u : List (List Nat)) : Tr Int Lz8 (sLz8 s t u) cI.v := (.c Af64 Sf64 (t, 1, 9, ()) fun r6 => (.i (!(r6 == 0)) (.r 3) (.i (decide (256 < ((u.length : Nat) : Int))) (.r 5) (.g (.k12 0)))))
noncomputable def Ez8J (s : Lu) (t : Int) (u : List (List Nat)) := Tr.lp (Tz8J s t u)
theorem axU {s : Lu} {t : Int} {u : List (List Nat)} {n : Nat} {l_ : Lz8} : Ez8J s t u (n + 1) l_ = (Tz8J s t u l_).d (Ez8J s t u n) := rfl
noncomputable def Ez8 (n : Nat) (s : Lu) (t : Int) (u : List (List Nat)) := (Tz8 s t u).d (Ez8J s t u n)
noncomputable def Sz8 (x : Lu × Int × (List (List Nat)) × Unit) := Ez8 (x.2.2.1.length + 64) x.1 x.2.1 x.2.2.1
noncomputable def wz8 : Wk (Lu × Int × (List (List Nat)) × Unit) Int Lz8 cI.v := ⟨fun x => sLz8 x.1 x.2.1 x.2.2.1, uz8, fun x => Tz8 x.1 x.2.1 x.2.2.1, fun x => Tz8J x.1 x.2.1 x.2.2.1⟩
noncomputable def Kz8 := j1 8 Tryz.func8 [Kf64, Kz36] noZ ⟨27, (lookA [(6, ⟨[2, 3, 7], [0], 1, [], [], []⟩)]), noL, noL⟩ 128 Az8 cI Sz8 wz8 (fun x => x.2.2.1.length + 64)
noncomputable def Az9 := (Row.cons (Cod.agg rLu) (Row.cons cI (Row.cons (Cod.list [] rT) Row.nil)))
inductive Lz9 where
 | k4 (x3 : Int)
 | k13 (x1 : Int) (x2 : Bool) (x4 : Int)
noncomputable def uz9 : Lz9 → Nat
 | .k4 _ => 4
 | .k13 _ _ _ => 13
noncomputable def sLz9 (s : Lu) (t : Int) (u : List (List Nat)) : Lz9 → D
 | .k4 x3 => mD [(1, .int .i64 t), (2, (Cod.list [] rT).v u), (3, .ptr 0 0), (6, .ptr 1 0), (8, .int .i64 x3)] 2 [(0, .row ⟨(rLu.v s), 25, false⟩), (1, .row ⟨[.int .i64 0, .str [], .str [], .str []], 39, false⟩)] 128 []
 | .k13 x1 x2 x4 => mD [(1, .int .i64 t), (2, (Cod.list [] rT).v u), (3, .ptr 0 0), (6, .ptr 1 0), (8, .int .i64 x4), (9, .int .i64 x1), (29, .bool x2)] 2 [(0, .row ⟨(rLu.v s), 25, false⟩), (1, .row ⟨[.int .i64 0, .str [], .str [], .str []], 39, false⟩)] 128 []
noncomputable def Tz9J (s : Lu) (t : Int) (u : List (List Nat)) : (l_ : Lz9) → Tr ((Dv) × (Bool) × Unit) Lz9 (sLz9 s t u) (Cod.tup (Row.cons (Cod.agg rDv) (Row.cons cB Row.nil))).v
 | .k4 x3 => (.i (decide (x3 < ((u.length : Nat) : Int))) (.i (inR x3 u.length) (.i (((w6 ((w6 (t - 1)) + x3)).tmod 9) == 0) (.g (.k13 ((w6 ((w6 (t - 1)) + x3)).tmod 9) (!decide ((u.getD x3.toNat []) = s.b0)) x3)) (.i (((w6 ((w6 (t - 1)) + x3)).tmod 9) == 1) (.g (.k13 ((w6 ((w6 (t - 1)) + x3)).tmod 9) (!decide ((u.getD x3.toNat []) = s.b1)) x3)) (.i (((w6 ((w6 (t - 1)) + x3)).tmod 9) == 2) (.g (.k13 ((w6 ((w6 (t - 1)) + x3)).tmod 9) (!decide ((u.getD x3.toNat []) = s.b2)) x3)) (.i (((w6 ((w6 (t - 1)) + x3)).tmod 9) == 3) (.g (.k13 ((w6 ((w6 (t - 1)) + x3)).tmod 9) (!decide ((u.getD x3.toNat []) = s.b3)) x3)) (.i (((w6 ((w6 (t - 1)) + x3)).tmod 9) == 4) (.g (.k13 ((w6 ((w6 (t - 1)) + x3)).tmod 9) (!decide ((u.getD x3.toNat []) = s.b4)) x3)) (.i (((w6 ((w6 (t - 1)) + x3)).tmod 9) == 5) (.g (.k13 ((w6 ((w6 (t - 1)) + x3)).tmod 9) (!decide ((u.getD x3.toNat []) = s.b5)) x3)) (.i (((w6 ((w6 (t - 1)) + x3)).tmod 9) == 6) (.g (.k13 ((w6 ((w6 (t - 1)) + x3)).tmod 9) (!decide ((u.getD x3.toNat []) = s.b6)) x3)) (.i (((w6 ((w6 (t - 1)) + x3)).tmod 9) == 7) (.g (.k13 ((w6 ((w6 (t - 1)) + x3)).tmod 9) (!decide ((u.getD x3.toNat []) = s.b7)) x3)) (.i (((w6 ((w6 (t - 1)) + x3)).tmod 9) == 8) (.g (.k13 ((w6 ((w6 (t - 1)) + x3)).tmod 9) (!decide ((u.getD x3.toNat []) = s.b8)) x3)) .n))))))))) .n) (.r ((⟨0, [], [], []⟩ : Dv), false, ())))
 | .k13 x1 x2 x4 => (.i x2 (.i (x1 == 0) (.i (inR x4 u.length) (.i (((w6 (x1 + 1)).tmod 9) == 0) (.r ((⟨x4, s.b0, (u.getD x4.toNat []), s.b0⟩ : Dv), true, ())) (.i (((w6 (x1 + 1)).tmod 9) == 1) (.r ((⟨x4, s.b0, (u.getD x4.toNat []), s.b1⟩ : Dv), true, ())) (.i (((w6 (x1 + 1)).tmod 9) == 2) (.r ((⟨x4, s.b0, (u.getD x4.toNat []), s.b2⟩ : Dv), true, ())) (.i (((w6 (x1 + 1)).tmod 9) == 3) (.r ((⟨x4, s.b0, (u.getD x4.toNat []), s.b3⟩ : Dv), true, ())) (.i (((w6 (x1 + 1)).tmod 9) == 4) (.r ((⟨x4, s.b0, (u.getD x4.toNat []), s.b4⟩ : Dv), true, ())) (.i (((w6 (x1 + 1)).tmod 9) == 5) (.r ((⟨x4, s.b0, (u.getD x4.toNat []), s.b5⟩ : Dv), true, ())) (.i (((w6 (x1 + 1)).tmod 9) == 6) (.r ((⟨x4, s.b0, (u.getD x4.toNat []), s.b6⟩ : Dv), true, ())) (.i (((w6 (x1 + 1)).tmod 9) == 7) (.r ((⟨x4, s.b0, (u.getD x4.toNat []), s.b7⟩ : Dv), true, ())) (.i (((w6 (x1 + 1)).tmod 9) == 8) (.r ((⟨x4, s.b0, (u.getD x4.toNat []), s.b8⟩ : Dv), true, ())) .n))))))))) .n) (.i (x1 == 1) (.i (inR x4 u.length) (.i (((w6 (x1 + 1)).tmod 9) == 0) (.r ((⟨x4, s.b1, (u.getD x4.toNat []), s.b0⟩ : Dv), true, ())) (.i (((w6 (x1 + 1)).tmod 9) == 1) (.r ((⟨x4, s.b1, (u.getD x4.toNat []), s.b1⟩ : Dv), true, ())) (.i (((w6 (x1 + 1)).tmod 9) == 2) (.r ((⟨x4, s.b1, (u.getD x4.toNat []), s.b2⟩ : Dv), true, ())) (.i (((w6 (x1 + 1)).tmod 9) == 3) (.r ((⟨x4, s.b1, (u.getD x4.toNat []), s.b3⟩ : Dv), true, ())) (.i (((w6 (x1 + 1)).tmod 9) == 4) (.r ((⟨x4, s.b1, (u.getD x4.toNat []), s.b4⟩ : Dv), true, ())) (.i (((w6 (x1 + 1)).tmod 9) == 5) (.r ((⟨x4, s.b1, (u.getD x4.toNat []), s.b5⟩ : Dv), true, ())) (.i (((w6 (x1 + 1)).tmod 9) == 6) (.r ((⟨x4, s.b1, (u.getD x4.toNat []), s.b6⟩ : Dv), true, ())) (.i (((w6 (x1 + 1)).tmod 9) == 7) (.r ((⟨x4, s.b1, (u.getD x4.toNat []), s.b7⟩ : Dv), true, ())) (.i (((w6 (x1 + 1)).tmod 9) == 8) (.r ((⟨x4, s.b1, (u.getD x4.toNat []), s.b8⟩ : Dv), true, ())) .n))))))))) .n) (.i (x1 == 2) (.i (inR x4 u.length) (.i (((w6 (x1 + 1)).tmod 9) == 0) (.r ((⟨x4, s.b2, (u.getD x4.toNat []), s.b0⟩ : Dv), true, ())) (.i (((w6 (x1 + 1)).tmod 9) == 1) (.r ((⟨x4, s.b2, (u.getD x4.toNat []), s.b1⟩ : Dv), true, ())) (.i (((w6 (x1 + 1)).tmod 9) == 2) (.r ((⟨x4, s.b2, (u.getD x4.toNat []), s.b2⟩ : Dv), true, ())) (.i (((w6 (x1 + 1)).tmod 9) == 3) (.r ((⟨x4, s.b2, (u.getD x4.toNat []), s.b3⟩ : Dv), true, ())) (.i (((w6 (x1 + 1)).tmod 9) == 4) (.r ((⟨x4, s.b2, (u.getD x4.toNat []), s.b4⟩ : Dv), true, ())) (.i (((w6 (x1 + 1)).tmod 9) == 5) (.r ((⟨x4, s.b2, (u.getD x4.toNat []), s.b5⟩ : Dv), true, ())) (.i (((w6 (x1 + 1)).tmod 9) == 6) (.r ((⟨x4, s.b2, (u.getD x4.toNat []), s.b6⟩ : Dv), true, ())) (.i (((w6 (x1 + 1)).tmod 9) == 7) (.r ((⟨x4, s.b2, (u.getD x4.toNat []), s.b7⟩ : Dv), true, ())) (.i (((w6 (x1 + 1)).tmod 9) == 8) (.r ((⟨x4, s.b2, (u.getD x4.toNat []), s.b8⟩ : Dv), true, ())) .n))))))))) .n) (.i (x1 == 3) (.i (inR x4 u.length) (.i (((w6 (x1 + 1)).tmod 9) == 0) (.r ((⟨x4, s.b3, (u.getD x4.toNat []), s.b0⟩ : Dv), true, ())) (.i (((w6 (x1 + 1)).tmod 9) == 1) (.r ((⟨x4, s.b3, (u.getD x4.toNat []), s.b1⟩ : Dv), true, ())) (.i (((w6 (x1 + 1)).tmod 9) == 2) (.r ((⟨x4, s.b3, (u.getD x4.toNat []), s.b2⟩ : Dv), true, ())) (.i (((w6 (x1 + 1)).tmod 9) == 3) (.r ((⟨x4, s.b3, (u.getD x4.toNat []), s.b3⟩ : Dv), true, ())) (.i (((w6 (x1 + 1)).tmod 9) == 4) (.r ((⟨x4, s.b3, (u.getD x4.toNat []), s.b4⟩ : Dv), true, ())) (.i (((w6 (x1 + 1)).tmod 9) == 5) (.r ((⟨x4, s.b3, (u.getD x4.toNat []), s.b5⟩ : Dv), true, ())) (.i (((w6 (x1 + 1)).tmod 9) == 6) (.r ((⟨x4, s.b3, (u.getD x4.toNat []), s.b6⟩ : Dv), true, ())) (.i (((w6 (x1 + 1)).tmod 9) == 7) (.r ((⟨x4, s.b3, (u.getD x4.toNat []), s.b7⟩ : Dv), true, ())) (.i (((w6 (x1 + 1)).tmod 9) == 8) (.r ((⟨x4, s.b3, (u.getD x4.toNat []), s.b8⟩ : Dv), true, ())) .n))))))))) .n) (.i (x1 == 4) (.i (inR x4 u.length) (.i (((w6 (x1 + 1)).tmod 9) == 0) (.r ((⟨x4, s.b4, (u.getD x4.toNat []), s.b0⟩ : Dv), true, ())) (.i (((w6 (x1 + 1)).tmod 9) == 1) (.r ((⟨x4, s.b4, (u.getD x4.toNat []), s.b1⟩ : Dv), true, ())) (.i (((w6 (x1 + 1)).tmod 9) == 2) (.r ((⟨x4, s.b4, (u.getD x4.toNat []), s.b2⟩ : Dv), true, ())) (.i (((w6 (x1 + 1)).tmod 9) == 3) (.r ((⟨x4, s.b4, (u.getD x4.toNat []), s.b3⟩ : Dv), true, ())) (.i (((w6 (x1 + 1)).tmod 9) == 4) (.r ((⟨x4, s.b4, (u.getD x4.toNat []), s.b4⟩ : Dv), true, ())) (.i (((w6 (x1 + 1)).tmod 9) == 5) (.r ((⟨x4, s.b4, (u.getD x4.toNat []), s.b5⟩ : Dv), true, ())) (.i (((w6 (x1 + 1)).tmod 9) == 6) (.r ((⟨x4, s.b4, (u.getD x4.toNat []), s.b6⟩ : Dv), true, ())) (.i (((w6 (x1 + 1)).tmod 9) == 7) (.r ((⟨x4, s.b4, (u.getD x4.toNat []), s.b7⟩ : Dv), true, ())) (.i (((w6 (x1 + 1)).tmod 9) == 8) (.r ((⟨x4, s.b4, (u.getD x4.toNat []), s.b8⟩ : Dv), true, ())) .n))))))))) .n) (.i (x1 == 5) (.i (inR x4 u.length) (.i (((w6 (x1 + 1)).tmod 9) == 0) (.r ((⟨x4, s.b5, (u.getD x4.toNat []), s.b0⟩ : Dv), true, ())) (.i (((w6 (x1 + 1)).tmod 9) == 1) (.r ((⟨x4, s.b5, (u.getD x4.toNat []), s.b1⟩ : Dv), true, ())) (.i (((w6 (x1 + 1)).tmod 9) == 2) (.r ((⟨x4, s.b5, (u.getD x4.toNat []), s.b2⟩ : Dv), true, ())) (.i (((w6 (x1 + 1)).tmod 9) == 3) (.r ((⟨x4, s.b5, (u.getD x4.toNat []), s.b3⟩ : Dv), true, ())) (.i (((w6 (x1 + 1)).tmod 9) == 4) (.r ((⟨x4, s.b5, (u.getD x4.toNat []), s.b4⟩ : Dv), true, ())) (.i (((w6 (x1 + 1)).tmod 9) == 5) (.r ((⟨x4, s.b5, (u.getD x4.toNat []), s.b5⟩ : Dv), true, ())) (.i (((w6 (x1 + 1)).tmod 9) == 6) (.r ((⟨x4, s.b5, (u.getD x4.toNat []), s.b6⟩ : Dv), true, ())) (.i (((w6 (x1 + 1)).tmod 9) == 7) (.r ((⟨x4, s.b5, (u.getD x4.toNat []), s.b7⟩ : Dv), true, ())) (.i (((w6 (x1 + 1)).tmod 9) == 8) (.r ((⟨x4, s.b5, (u.getD x4.toNat []), s.b8⟩ : Dv), true, ())) .n))))))))) .n) (.i (x1 == 6) (.i (inR x4 u.length) (.i (((w6 (x1 + 1)).tmod 9) == 0) (.r ((⟨x4, s.b6, (u.getD x4.toNat []), s.b0⟩ : Dv), true, ())) (.i (((w6 (x1 + 1)).tmod 9) == 1) (.r ((⟨x4, s.b6, (u.getD x4.toNat []), s.b1⟩ : Dv), true, ())) (.i (((w6 (x1 + 1)).tmod 9) == 2) (.r ((⟨x4, s.b6, (u.getD x4.toNat []), s.b2⟩ : Dv), true, ())) (.i (((w6 (x1 + 1)).tmod 9) == 3) (.r ((⟨x4, s.b6, (u.getD x4.toNat []), s.b3⟩ : Dv), true, ())) (.i (((w6 (x1 + 1)).tmod 9) == 4) (.r ((⟨x4, s.b6, (u.getD x4.toNat []), s.b4⟩ : Dv), true, ())) (.i (((w6 (x1 + 1)).tmod 9) == 5) (.r ((⟨x4, s.b6, (u.getD x4.toNat []), s.b5⟩ : Dv), true, ())) (.i (((w6 (x1 + 1)).tmod 9) == 6) (.r ((⟨x4, s.b6, (u.getD x4.toNat []), s.b6⟩ : Dv), true, ())) (.i (((w6 (x1 + 1)).tmod 9) == 7) (.r ((⟨x4, s.b6, (u.getD x4.toNat []), s.b7⟩ : Dv), true, ())) (.i (((w6 (x1 + 1)).tmod 9) == 8) (.r ((⟨x4, s.b6, (u.getD x4.toNat []), s.b8⟩ : Dv), true, ())) .n))))))))) .n) (.i (x1 == 7) (.i (inR x4 u.length) (.i (((w6 (x1 + 1)).tmod 9) == 0) (.r ((⟨x4, s.b7, (u.getD x4.toNat []), s.b0⟩ : Dv), true, ())) (.i (((w6 (x1 + 1)).tmod 9) == 1) (.r ((⟨x4, s.b7, (u.getD x4.toNat []), s.b1⟩ : Dv), true, ())) (.i (((w6 (x1 + 1)).tmod 9) == 2) (.r ((⟨x4, s.b7, (u.getD x4.toNat []), s.b2⟩ : Dv), true, ())) (.i (((w6 (x1 + 1)).tmod 9) == 3) (.r ((⟨x4, s.b7, (u.getD x4.toNat []), s.b3⟩ : Dv), true, ())) (.i (((w6 (x1 + 1)).tmod 9) == 4) (.r ((⟨x4, s.b7, (u.getD x4.toNat []), s.b4⟩ : Dv), true, ())) (.i (((w6 (x1 + 1)).tmod 9) == 5) (.r ((⟨x4, s.b7, (u.getD x4.toNat []), s.b5⟩ : Dv), true, ())) (.i (((w6 (x1 + 1)).tmod 9) == 6) (.r ((⟨x4, s.b7, (u.getD x4.toNat []), s.b6⟩ : Dv), true, ())) (.i (((w6 (x1 + 1)).tmod 9) == 7) (.r ((⟨x4, s.b7, (u.getD x4.toNat []), s.b7⟩ : Dv), true, ())) (.i (((w6 (x1 + 1)).tmod 9) == 8) (.r ((⟨x4, s.b7, (u.getD x4.toNat []), s.b8⟩ : Dv), true, ())) .n))))))))) .n) (.i (x1 == 8) (.i (inR x4 u.length) (.i (((w6 (x1 + 1)).tmod 9) == 0) (.r ((⟨x4, s.b8, (u.getD x4.toNat []), s.b0⟩ : Dv), true, ())) (.i (((w6 (x1 + 1)).tmod 9) == 1) (.r ((⟨x4, s.b8, (u.getD x4.toNat []), s.b1⟩ : Dv), true, ())) (.i (((w6 (x1 + 1)).tmod 9) == 2) (.r ((⟨x4, s.b8, (u.getD x4.toNat []), s.b2⟩ : Dv), true, ())) (.i (((w6 (x1 + 1)).tmod 9) == 3) (.r ((⟨x4, s.b8, (u.getD x4.toNat []), s.b3⟩ : Dv), true, ())) (.i (((w6 (x1 + 1)).tmod 9) == 4) (.r ((⟨x4, s.b8, (u.getD x4.toNat []), s.b4⟩ : Dv), true, ())) (.i (((w6 (x1 + 1)).tmod 9) == 5) (.r ((⟨x4, s.b8, (u.getD x4.toNat []), s.b5⟩ : Dv), true, ())) (.i (((w6 (x1 + 1)).tmod 9) == 6) (.r ((⟨x4, s.b8, (u.getD x4.toNat []), s.b6⟩ : Dv), true, ())) (.i (((w6 (x1 + 1)).tmod 9) == 7) (.r ((⟨x4, s.b8, (u.getD x4.toNat []), s.b7⟩ : Dv), true, ())) (.i (((w6 (x1 + 1)).tmod 9) == 8) (.r ((⟨x4, s.b8, (u.getD x4.toNat []), s.b8⟩ : Dv), true, ())) .n))))))))) .n) .n))))))))) (.g (.k4 (w6 (x4 + 1)))))
noncomputable def Tz9 (s : Lu) (t : Int) (u : List (List Nat)) : Tr ((Dv) × (Bool) × Unit) Lz9 (sLz9 s t u) (Cod.tup (Row.cons (Cod.agg rDv) (Row.cons cB Row.nil))).v := (.g (.k4 0))
noncomputable def Ez9J (s : Lu) (t : Int) (u : List (List Nat)) := Tr.lp (Tz9J s t u)
theorem aqn {s : Lu} {t : Int} {u : List (List Nat)} {n : Nat} {l_ : Lz9} : Ez9J s t u (n + 1) l_ = (Tz9J s t u l_).d (Ez9J s t u n) := rfl
noncomputable def Ez9 (n : Nat) (s : Lu) (t : Int) (u : List (List Nat)) := (Tz9 s t u).d (Ez9J s t u n)
noncomputable def Sz9 (x : Lu × Int × (List (List Nat)) × Unit) := Ez9 (x.2.2.1.length + 64) x.1 x.2.1 x.2.2.1
noncomputable def wz9 : Wk (Lu × Int × (List (List Nat)) × Unit) ((Dv) × (Bool) × Unit) Lz9 (Cod.tup (Row.cons (Cod.agg rDv) (Row.cons cB Row.nil))).v := ⟨fun x => sLz9 x.1 x.2.1 x.2.2.1, uz9, fun x => Tz9 x.1 x.2.1 x.2.2.1, fun x => Tz9J x.1 x.2.1 x.2.2.1⟩
noncomputable def Kz9 := j1 9 Tryz.func9 [] noZ ⟨47, (lookA [(2, ⟨[1, 2, 3, 6, 8], [0, 1], 2, [], [], []⟩)]), (lookA [(6, ⟨[1, 2, 3, 6, 8, 9, 29], [0, 1], 2, [], [], []⟩)]), noL⟩ 128 Az9 (Cod.tup (Row.cons (Cod.agg rDv) (Row.cons cB Row.nil))) Sz9 wz9 (fun x => x.2.2.1.length + 64)
noncomputable def ajs := (Row.cons (Cod.agg rLu) (Row.cons cI (Row.cons (Cod.list [] rT) Row.nil)))
noncomputable def Wz11 (r : (List (Int))) : V := .el (r.map fR.v)
theorem hWz11 (r : (List (Int))) : (Wz11 r).c = ((Cod.list 0 fR).v r).c := by
 first | rfl | exact jG | (show EVal.tup (V.cs _) = EVal.tup (V.cs _); simp only [V.cs_map, List.map_cons, List.map_nil, jG]; rfl)
inductive axT where
 | k6 (x2 : Int) (x3 : Int) (x4 : List (Int))
noncomputable def uz11 : axT → Nat
 | .k6 _ _ _ => 6
noncomputable def eH (s : Lu) (u : List (List Nat)) (x2 : Int) (x3 : Int) (x4 : List (List V)) : D := mD [(1, .int .i64 x2), (2, (Cod.list [] rT).v u), (3, .ptr 0 0), (7, .gl 128), (8, .int .i64 x3)] 1 [(0, .row ⟨(rLu.v s), 25, false⟩)] 129 [(128, (x4, 3))]
noncomputable def lS (s : Lu) (t : Int) (u : List (List Nat)) : axT → D
 | .k6 x2 x3 x4 => eH s u x2 x3 (x4.map fR.v)
noncomputable def aqj (s : Lu) (t : Int) (u : List (List Nat)) : (l_ : axT) → Tr (List (Int)) axT (lS s t u) Wz11
 | .k6 x2 x3 x4 => (.i (decide (x3 < ((u.length : Nat) : Int))) (.i (inR x3 u.length) (.i ((w6 (x2 - 1)) == 0) (.i (!decide ((u.getD x3.toNat []) = s.b0)) (.i (Nat.ble (8 * (((x4.map fR.v)).length + 1)) 1000000) (.i (inR x3 u.length) (.c pZ oV (s, (u.getD x3.toNat []), ()) fun r56 => (.j (.k6 (w6 ((r56.tmod 9) + 1)) (w6 (x3 + 1)) (x4 ++ [x3])) (eH s u (w6 ((r56.tmod 9) + 1)) (w6 (x3 + 1)) ((x4.map fR.v) ++ [[.int .i64 x3]])) ⟨by simp only [lS, List.map_append, List.map_cons, List.map_nil]; rfl⟩)) .n) .n) (.i (inR x3 u.length) (.c pZ oV (s, (u.getD x3.toNat []), ()) fun r57 => (.g (.k6 (w6 ((r57.tmod 9) + 1)) (w6 (x3 + 1)) x4))) .n)) (.i ((w6 (x2 - 1)) == 1) (.i (!decide ((u.getD x3.toNat []) = s.b1)) (.i (Nat.ble (8 * (((x4.map fR.v)).length + 1)) 1000000) (.i (inR x3 u.length) (.c pZ oV (s, (u.getD x3.toNat []), ()) fun r54 => (.j (.k6 (w6 ((r54.tmod 9) + 1)) (w6 (x3 + 1)) (x4 ++ [x3])) (eH s u (w6 ((r54.tmod 9) + 1)) (w6 (x3 + 1)) ((x4.map fR.v) ++ [[.int .i64 x3]])) ⟨by simp only [lS, List.map_append, List.map_cons, List.map_nil]; rfl⟩)) .n) .n) (.i (inR x3 u.length) (.c pZ oV (s, (u.getD x3.toNat []), ()) fun r55 => (.g (.k6 (w6 ((r55.tmod 9) + 1)) (w6 (x3 + 1)) x4))) .n)) (.i ((w6 (x2 - 1)) == 2) (.i (!decide ((u.getD x3.toNat []) = s.b2)) (.i (Nat.ble (8 * (((x4.map fR.v)).length + 1)) 1000000) (.i (inR x3 u.length) (.c pZ oV (s, (u.getD x3.toNat []), ()) fun r52 => (.j (.k6 (w6 ((r52.tmod 9) + 1)) (w6 (x3 + 1)) (x4 ++ [x3])) (eH s u (w6 ((r52.tmod 9) + 1)) (w6 (x3 + 1)) ((x4.map fR.v) ++ [[.int .i64 x3]])) ⟨by simp only [lS, List.map_append, List.map_cons, List.map_nil]; rfl⟩)) .n) .n) (.i (inR x3 u.length) (.c pZ oV (s, (u.getD x3.toNat []), ()) fun r53 => (.g (.k6 (w6 ((r53.tmod 9) + 1)) (w6 (x3 + 1)) x4))) .n)) (.i ((w6 (x2 - 1)) == 3) (.i (!decide ((u.getD x3.toNat []) = s.b3)) (.i (Nat.ble (8 * (((x4.map fR.v)).length + 1)) 1000000) (.i (inR x3 u.length) (.c pZ oV (s, (u.getD x3.toNat []), ()) fun r50 => (.j (.k6 (w6 ((r50.tmod 9) + 1)) (w6 (x3 + 1)) (x4 ++ [x3])) (eH s u (w6 ((r50.tmod 9) + 1)) (w6 (x3 + 1)) ((x4.map fR.v) ++ [[.int .i64 x3]])) ⟨by simp only [lS, List.map_append, List.map_cons, List.map_nil]; rfl⟩)) .n) .n) (.i (inR x3 u.length) (.c pZ oV (s, (u.getD x3.toNat []), ()) fun r51 => (.g (.k6 (w6 ((r51.tmod 9) + 1)) (w6 (x3 + 1)) x4))) .n)) (.i ((w6 (x2 - 1)) == 4) (.i (!decide ((u.getD x3.toNat []) = s.b4)) (.i (Nat.ble (8 * (((x4.map fR.v)).length + 1)) 1000000) (.i (inR x3 u.length) (.c pZ oV (s, (u.getD x3.toNat []), ()) fun r48 => (.j (.k6 (w6 ((r48.tmod 9) + 1)) (w6 (x3 + 1)) (x4 ++ [x3])) (eH s u (w6 ((r48.tmod 9) + 1)) (w6 (x3 + 1)) ((x4.map fR.v) ++ [[.int .i64 x3]])) ⟨by simp only [lS, List.map_append, List.map_cons, List.map_nil]; rfl⟩)) .n) .n) (.i (inR x3 u.length) (.c pZ oV (s, (u.getD x3.toNat []), ()) fun r49 => (.g (.k6 (w6 ((r49.tmod 9) + 1)) (w6 (x3 + 1)) x4))) .n)) (.i ((w6 (x2 - 1)) == 5) (.i (!decide ((u.getD x3.toNat []) = s.b5)) (.i (Nat.ble (8 * (((x4.map fR.v)).length + 1)) 1000000) (.i (inR x3 u.length) (.c pZ oV (s, (u.getD x3.toNat []), ()) fun r46 => (.j (.k6 (w6 ((r46.tmod 9) + 1)) (w6 (x3 + 1)) (x4 ++ [x3])) (eH s u (w6 ((r46.tmod 9) + 1)) (w6 (x3 + 1)) ((x4.map fR.v) ++ [[.int .i64 x3]])) ⟨by simp only [lS, List.map_append, List.map_cons, List.map_nil]; rfl⟩)) .n) .n) (.i (inR x3 u.length) (.c pZ oV (s, (u.getD x3.toNat []), ()) fun r47 => (.g (.k6 (w6 ((r47.tmod 9) + 1)) (w6 (x3 + 1)) x4))) .n)) (.i ((w6 (x2 - 1)) == 6) (.i (!decide ((u.getD x3.toNat []) = s.b6)) (.i (Nat.ble (8 * (((x4.map fR.v)).length + 1)) 1000000) (.i (inR x3 u.length) (.c pZ oV (s, (u.getD x3.toNat []), ()) fun r44 => (.j (.k6 (w6 ((r44.tmod 9) + 1)) (w6 (x3 + 1)) (x4 ++ [x3])) (eH s u (w6 ((r44.tmod 9) + 1)) (w6 (x3 + 1)) ((x4.map fR.v) ++ [[.int .i64 x3]])) ⟨by simp only [lS, List.map_append, List.map_cons, List.map_nil]; rfl⟩)) .n) .n) (.i (inR x3 u.length) (.c pZ oV (s, (u.getD x3.toNat []), ()) fun r45 => (.g (.k6 (w6 ((r45.tmod 9) + 1)) (w6 (x3 + 1)) x4))) .n)) (.i ((w6 (x2 - 1)) == 7) (.i (!decide ((u.getD x3.toNat []) = s.b7)) (.i (Nat.ble (8 * (((x4.map fR.v)).length + 1)) 1000000) (.i (inR x3 u.length) (.c pZ oV (s, (u.getD x3.toNat []), ()) fun r42 => (.j (.k6 (w6 ((r42.tmod 9) + 1)) (w6 (x3 + 1)) (x4 ++ [x3])) (eH s u (w6 ((r42.tmod 9) + 1)) (w6 (x3 + 1)) ((x4.map fR.v) ++ [[.int .i64 x3]])) ⟨by simp only [lS, List.map_append, List.map_cons, List.map_nil]; rfl⟩)) .n) .n) (.i (inR x3 u.length) (.c pZ oV (s, (u.getD x3.toNat []), ()) fun r43 => (.g (.k6 (w6 ((r43.tmod 9) + 1)) (w6 (x3 + 1)) x4))) .n)) (.i ((w6 (x2 - 1)) == 8) (.i (!decide ((u.getD x3.toNat []) = s.b8)) (.i (Nat.ble (8 * (((x4.map fR.v)).length + 1)) 1000000) (.i (inR x3 u.length) (.c pZ oV (s, (u.getD x3.toNat []), ()) fun r40 => (.j (.k6 (w6 ((r40.tmod 9) + 1)) (w6 (x3 + 1)) (x4 ++ [x3])) (eH s u (w6 ((r40.tmod 9) + 1)) (w6 (x3 + 1)) ((x4.map fR.v) ++ [[.int .i64 x3]])) ⟨by simp only [lS, List.map_append, List.map_cons, List.map_nil]; rfl⟩)) .n) .n) (.i (inR x3 u.length) (.c pZ oV (s, (u.getD x3.toNat []), ()) fun r41 => (.g (.k6 (w6 ((r41.tmod 9) + 1)) (w6 (x3 + 1)) x4))) .n)) .n))))))))) .n) (.r x4))
noncomputable def Tz11 (s : Lu) (t : Int) (u : List (List Nat)) : Tr (List (Int)) axT (lS s t u) Wz11 := (.g (.k6 t 0 []))
noncomputable def aqs (s : Lu) (t : Int) (u : List (List Nat)) := Tr.lp (aqj s t u)
theorem aqr {s : Lu} {t : Int} {u : List (List Nat)} {n : Nat} {l_ : axT} : aqs s t u (n + 1) l_ = (aqj s t u l_).d (aqs s t u n) := rfl
noncomputable def Ez11 (n : Nat) (s : Lu) (t : Int) (u : List (List Nat)) := (Tz11 s t u).d (aqs s t u n)
noncomputable def aqw (x : Lu × Int × (List (List Nat)) × Unit) := Ez11 (x.2.2.1.length + 64) x.1 x.2.1 x.2.2.1
noncomputable def wz11 : Wk (Lu × Int × (List (List Nat)) × Unit) (List (Int)) axT Wz11 := ⟨fun x => lS x.1 x.2.1 x.2.2.1, uz11, fun x => Tz11 x.1 x.2.1 x.2.2.1, fun x => aqj x.1 x.2.1 x.2.2.1⟩
noncomputable def Kz11 := j1 11 Tryz.func11 [Kz36] noZ ⟨38, (lookA [(3, ⟨[1, 2, 3, 7, 8], [0], 1, [(7, 3)], [128], []⟩)]), noL, noL⟩ 128 ajs (Cod.list 0 fR) aqw wz11 (fun x => x.2.2.1.length + 64) hWz11
noncomputable def Az31 := (Row.cons (Cod.agg rLu) (Row.cons cI Row.nil))
noncomputable def Tz31 (s : Lu) (t : Int) : Tr (List Nat) Empty noS cS.v := (.i ((w6 (t - 1)) == 0) (.r s.b0) (.i ((w6 (t - 1)) == 1) (.r s.b1) (.i ((w6 (t - 1)) == 2) (.r s.b2) (.i ((w6 (t - 1)) == 3) (.r s.b3) (.i ((w6 (t - 1)) == 4) (.r s.b4) (.i ((w6 (t - 1)) == 5) (.r s.b5) (.i ((w6 (t - 1)) == 6) (.r s.b6) (.i ((w6 (t - 1)) == 7) (.r s.b7) (.i ((w6 (t - 1)) == 8) (.r s.b8) .n)))))))))
noncomputable def Ez31 (s : Lu) (t : Int) := (Tz31 s t).d noE
noncomputable def Sz31 (x : Lu × Int × Unit) := Ez31 x.1 x.2.1
noncomputable def wz31 : Wk (Lu × Int × Unit) (List Nat) Empty cS.v := wk0 fun x => Tz31 x.1 x.2.1
noncomputable def Kz31 := j1 31 Tryz.func31 [] noZ ⟨10, noL, noL, noL⟩ 128 Az31 cS Sz31 wz31 (fun _ => 0)
noncomputable def Az32 := (Row.cons cI Row.nil)
noncomputable def Tz32 (s : Int) : Tr Int Empty noS cI.v := (.r (w6 ((s.tmod 9) + 1)))
noncomputable def Ez32 (s : Int) := (Tz32 s).d noE
noncomputable def Sz32 (x : Int × Unit) := Ez32 x.1
noncomputable def wz32 : Wk (Int × Unit) Int Empty cI.v := wk0 fun x => Tz32 x.1
noncomputable def Kz32 := j1 32 Tryz.func32 [] noZ ⟨6, noL, noL, noL⟩ 128 Az32 cI Sz32 wz32 (fun _ => 0)
noncomputable def Az5 := (Row.cons (Cod.agg rLu) (Row.cons cI (Row.cons (Cod.list [] rT) Row.nil)))
inductive Lz5 where
 | k10 (x7 : Int) (x8 : Int)
noncomputable def uz5 : Lz5 → Nat
 | .k10 _ _ => 10
noncomputable def sLz5 (s : Lu) (t : Int) (u : List (List Nat)) : Lz5 → D
 | .k10 x7 x8 => mD [(2, (Cod.list [] rT).v u), (3, .ptr 0 0), (6, .ptr 1 0), (9, .int .i64 x7), (10, .int .i64 x8)] 2 [(0, .row ⟨(rLu.v s), 33, false⟩), (1, .row ⟨[.int .i64 0, .str [], .str [], .str []], 29, false⟩)] 128 []
noncomputable def Tz5J (s : Lu) (t : Int) (u : List (List Nat)) : (l_ : Lz5) → Tr ((Dv) × (Int) × Unit) Lz5 (sLz5 s t u) (Cod.tup (Row.cons (Cod.agg rDv) (Row.cons cI Row.nil))).v
 | .k10 x7 x8 => (.i (decide (x8 < ((u.length : Nat) : Int))) (.i (inR x8 u.length) (.c Az31 Sz31 (s, x7, ()) fun r31 => (.i (decide ((u.getD x8.toNat []) = r31)) (.c Az32 Sz32 (x7, ()) fun r32 => (.g (.k10 r32 (w6 (x8 + 1))))) (.i (x8 == ((u.length : Nat) : Int)) (.r ((⟨0, [], [], []⟩ : Dv), 7, ())) (.c Az31 Sz31 (s, x7, ()) fun r33 => (.i (inR x8 u.length) (.c Az32 Sz32 (x7, ()) fun r34 => (.c Az31 Sz31 (s, r34, ()) fun r35 => (.r ((⟨x8, r33, (u.getD x8.toNat []), r35⟩ : Dv), 0, ())))) .n))))) .n) (.i (x8 == ((u.length : Nat) : Int)) (.r ((⟨0, [], [], []⟩ : Dv), 7, ())) (.c Az31 Sz31 (s, x7, ()) fun r36 => (.i (inR x8 u.length) (.c Az32 Sz32 (x7, ()) fun r37 => (.c Az31 Sz31 (s, r37, ()) fun r38 => (.r ((⟨x8, r36, (u.getD x8.toNat []), r38⟩ : Dv), 0, ())))) .n))))
noncomputable def Tz5 (s : Lu) (t : Int) (u : List (List Nat)) : Tr ((Dv) × (Int) × Unit) Lz5 (sLz5 s t u) (Cod.tup (Row.cons (Cod.agg rDv) (Row.cons cI Row.nil))).v := (.c Az28 Sz28 (s, ()) fun r27 => (.c yN yJ (t, ()) fun r28 => (.c Az30 Sz30 (s, u, ()) fun r29 => (.c Az27 Sz27 ([r27, r28, r29], ()) fun r30 => (.i (!(r30 == 0)) (.r ((⟨0, [], [], []⟩ : Dv), r30, ())) (.g (.k10 t 0)))))))
noncomputable def Ez5J (s : Lu) (t : Int) (u : List (List Nat)) := Tr.lp (Tz5J s t u)
theorem axW {s : Lu} {t : Int} {u : List (List Nat)} {n : Nat} {l_ : Lz5} : Ez5J s t u (n + 1) l_ = (Tz5J s t u l_).d (Ez5J s t u n) := rfl
noncomputable def Ez5 (n : Nat) (s : Lu) (t : Int) (u : List (List Nat)) := (Tz5 s t u).d (Ez5J s t u n)
noncomputable def Sz5 (x : Lu × Int × (List (List Nat)) × Unit) := Ez5 (x.2.2.1.length + 64) x.1 x.2.1 x.2.2.1
noncomputable def wz5 : Wk (Lu × Int × (List (List Nat)) × Unit) ((Dv) × (Int) × Unit) Lz5 (Cod.tup (Row.cons (Cod.agg rDv) (Row.cons cI Row.nil))).v := ⟨fun x => sLz5 x.1 x.2.1 x.2.2.1, uz5, fun x => Tz5 x.1 x.2.1 x.2.2.1, fun x => Tz5J x.1 x.2.1 x.2.2.1⟩
noncomputable def Kz5 := j1 5 Tryz.func5 [Kz27, Kz28, Kz29, Kz30, Kz31, Kz32] noZ ⟨60, (lookA [(5, ⟨[2, 3, 6, 9, 10], [0, 1], 2, [], [], []⟩)]), noL, noL⟩ 128 Az5 (Cod.tup (Row.cons (Cod.agg rDv) (Row.cons cI Row.nil))) Sz5 wz5 (fun x => x.2.2.1.length + 64)
noncomputable def Az6 := (Row.cons (Cod.agg rLu) (Row.cons cI (Row.cons (Cod.list [] rT) Row.nil)))
noncomputable def Wz6 (r : ((List (Int)) × (Int) × Unit)) : V := .tup [.el (r.1.map fR.v), cI.v r.2.1]
theorem hWz6 (r : ((List (Int)) × (Int) × Unit)) : (Wz6 r).c = ((Cod.tup (Row.cons (Cod.list 0 fR) (Row.cons cI Row.nil))).v r).c := by
 first | rfl | exact jG | (show EVal.tup (V.cs _) = EVal.tup (V.cs _); simp only [V.cs_map, List.map_cons, List.map_nil, jG (d := 0) (A := fR) (hk := rfl)]; rfl)
inductive Lz6 where
 | k14 (x7 : Int) (x8 : Int) (x9 : List (Int))
noncomputable def uz6 : Lz6 → Nat
 | .k14 _ _ _ => 14
noncomputable def yS (s : Lu) (u : List (List Nat)) (x7 : Int) (x8 : Int) (x9 : List (List V)) : D := mD [(3, .ptr 0 0), (9, .gl 128), (10, .int .i64 x7), (27, (Cod.list [] rT).v u), (28, .int .i64 ((u.length : Nat) : Int)), (29, .int .i64 x8)] 1 [(0, .row ⟨(rLu.v s), 33, false⟩)] 129 [(128, (x9, 3))]
noncomputable def sLz6 (s : Lu) (t : Int) (u : List (List Nat)) : Lz6 → D
 | .k14 x7 x8 x9 => yS s u x7 x8 (x9.map fR.v)
noncomputable def Tz6J (s : Lu) (t : Int) (u : List (List Nat)) : (l_ : Lz6) → Tr ((List (Int)) × (Int) × Unit) Lz6 (sLz6 s t u) Wz6
 | .k14 x7 x8 x9 => (.i (decide (x8 < ((u.length : Nat) : Int))) (.i (inR x8 u.length) (.c Az33 Sz33 (s, (u.getD x8.toNat []), ()) fun r22 => (.i (!(r22 == x7)) (.i (Nat.ble (8 * (((x9.map fR.v)).length + 1)) 1000000) (.c Az32 Sz32 (r22, ()) fun r23 => (.j (.k14 r23 (w6 (x8 + 1)) (x9 ++ [x8])) (yS s u r23 (w6 (x8 + 1)) ((x9.map fR.v) ++ [[.int .i64 x8]])) ⟨by simp only [sLz6, List.map_append, List.map_cons, List.map_nil]; rfl⟩)) .n) (.c Az32 Sz32 (r22, ()) fun r24 => (.g (.k14 r24 (w6 (x8 + 1)) x9))))) .n) (.r (x9, 0, ())))
noncomputable def Tz6 (s : Lu) (t : Int) (u : List (List Nat)) : Tr ((List (Int)) × (Int) × Unit) Lz6 (sLz6 s t u) Wz6 := (.c Az28 Sz28 (s, ()) fun r18 => (.c yN yJ (t, ()) fun r19 => (.c Az30 Sz30 (s, u, ()) fun r20 => (.c Az27 Sz27 ([r18, r19, r20], ()) fun r21 => (.i (!(r21 == 0)) (.r ([], r21, ())) (.g (.k14 t 0 [])))))))
noncomputable def Ez6J (s : Lu) (t : Int) (u : List (List Nat)) := Tr.lp (Tz6J s t u)
theorem axV {s : Lu} {t : Int} {u : List (List Nat)} {n : Nat} {l_ : Lz6} : Ez6J s t u (n + 1) l_ = (Tz6J s t u l_).d (Ez6J s t u n) := rfl
noncomputable def Ez6 (n : Nat) (s : Lu) (t : Int) (u : List (List Nat)) := (Tz6 s t u).d (Ez6J s t u n)
noncomputable def Sz6 (x : Lu × Int × (List (List Nat)) × Unit) := Ez6 (x.2.2.1.length + 64) x.1 x.2.1 x.2.2.1
noncomputable def wz6 : Wk (Lu × Int × (List (List Nat)) × Unit) ((List (Int)) × (Int) × Unit) Lz6 Wz6 := ⟨fun x => sLz6 x.1 x.2.1 x.2.2.1, uz6, fun x => Tz6 x.1 x.2.1 x.2.2.1, fun x => Tz6J x.1 x.2.1 x.2.2.1⟩
noncomputable def Kz6 := j1 6 Tryz.func6 [Kz27, Kz28, Kz29, Kz30, Kz32, Kz33] noZ ⟨48, (lookA [(7, ⟨[3, 9, 10, 27, 28, 29], [0], 1, [(9, 3)], [128], []⟩)]), noL, noL⟩ 128 Az6 (Cod.tup (Row.cons (Cod.list 0 fR) (Row.cons cI Row.nil))) Sz6 wz6 (fun x => x.2.2.1.length + 64) hWz6
noncomputable def ajt := (Row.cons (Cod.list 0 fR) (Row.cons (Cod.list 0 fR) Row.nil))
inductive Lf26 where
 | k8 (x1 : Int)
noncomputable def uf26 : Lf26 → Nat
 | .k8 _ => 8
noncomputable def sLf26 (s : List (Int)) (t : List (Int)) : Lf26 → D
 | .k8 x1 => mD [(0, (Cod.list 0 fR).v s), (1, (Cod.list 0 fR).v t), (5, .int .i64 x1)] 0 [] 128 []
noncomputable def aqk (s : List (Int)) (t : List (Int)) : (l_ : Lf26) → Tr Bool Lf26 (sLf26 s t) cB.v
 | .k8 x1 => (.i (decide (x1 < ((s.length : Nat) : Int))) (.i (inR x1 s.length) (.i (inR x1 t.length) (.i (!((s.getD x1.toNat 0) == (t.getD x1.toNat 0))) (.r false) (.g (.k8 (w6 (x1 + 1))))) .n) .n) (.r true))
noncomputable def Tf26 (s : List (Int)) (t : List (Int)) : Tr Bool Lf26 (sLf26 s t) cB.v := (.i (!(((s.length : Nat) : Int) == ((t.length : Nat) : Int))) (.r false) (.g (.k8 0)))
noncomputable def aqu (s : List (Int)) (t : List (Int)) := Tr.lp (aqk s t)
theorem aqt {s : List (Int)} {t : List (Int)} {n : Nat} {l_ : Lf26} : aqu s t (n + 1) l_ = (aqk s t l_).d (aqu s t n) := rfl
noncomputable def Ef26 (n : Nat) (s : List (Int)) (t : List (Int)) := (Tf26 s t).d (aqu s t n)
noncomputable def aqx (x : (List (Int)) × (List (Int)) × Unit) := Ef26 (x.1.length + x.2.1.length + 64) x.1 x.2.1
noncomputable def wf26 : Wk ((List (Int)) × (List (Int)) × Unit) Bool Lf26 cB.v := ⟨fun x => sLf26 x.1 x.2.1, uf26, fun x => Tf26 x.1 x.2.1, fun x => aqk x.1 x.2.1⟩
noncomputable def Kf26 := j1 10 Tryz.func10 [] noZ ⟨26, (lookA [(4, ⟨[0, 1, 5], [], 0, [], [], []⟩)]), noL, noL⟩ 128 ajt cB aqx wf26 (fun x => x.1.length + x.2.1.length + 64)
noncomputable def Az3 := (Row.cons (Cod.agg rLu) (Row.cons cI (Row.cons (Cod.list [] rT) Row.nil)))
inductive Lz3 where
 | k8 (x7 : Int)
noncomputable def uz3 : Lz3 → Nat
 | .k8 _ => 8
noncomputable def sLz3 (s : Lu) (t : Int) (u : List (List Nat)) : Lz3 → D
 | .k8 x7 => mD [(1, .int .i64 t), (2, (Cod.list [] rT).v u), (3, .ptr 0 0), (36, (Cod.list [] rT).v u), (37, .int .i64 ((u.length : Nat) : Int)), (38, .int .i64 x7)] 1 [(0, .row ⟨(rLu.v s), 25, false⟩)] 64 []
noncomputable def Tz3J (s : Lu) (t : Int) (u : List (List Nat)) : (l_ : Lz3) → Tr Bool Lz3 (sLz3 s t u) cB.v
 | .k8 x7 => (.i (decide (x7 < ((u.length : Nat) : Int))) (.i (inR x7 u.length) (.i (decide (60 < (((u.getD x7.toNat []).length : Nat) : Int))) (.c Aw4 Sw4 (()) fun r81 => (.r r81)) (.g (.k8 (w6 (x7 + 1))))) .n) (.i (decide (60 < ((s.b0.length : Nat) : Int))) (.c Aw4 Sw4 (()) fun r82 => (.r r82)) (.i (decide (60 < ((s.b1.length : Nat) : Int))) (.c Aw4 Sw4 (()) fun r83 => (.r r83)) (.i (decide (60 < ((s.b2.length : Nat) : Int))) (.c Aw4 Sw4 (()) fun r84 => (.r r84)) (.i (decide (60 < ((s.b3.length : Nat) : Int))) (.c Aw4 Sw4 (()) fun r85 => (.r r85)) (.i (decide (60 < ((s.b4.length : Nat) : Int))) (.c Aw4 Sw4 (()) fun r86 => (.r r86)) (.i (decide (60 < ((s.b5.length : Nat) : Int))) (.c Aw4 Sw4 (()) fun r87 => (.r r87)) (.i (decide (60 < ((s.b6.length : Nat) : Int))) (.c Aw4 Sw4 (()) fun r88 => (.r r88)) (.i (decide (60 < ((s.b7.length : Nat) : Int))) (.c Aw4 Sw4 (()) fun r89 => (.r r89)) (.i (decide (60 < ((s.b8.length : Nat) : Int))) (.c Aw4 Sw4 (()) fun r90 => (.r r90)) (.i (Nat.ble (16 * u.length) 1000000) (.c Az5 Sz5 (s, t, u, ()) fun r91 => (.i (Nat.ble (16 * u.length) 1000000) (.c Az6 Sz6 (s, t, u, ()) fun r92 => (.c Az7 Sz7 (s, ()) fun r93 => (.i (r93 == 0) (.c Az8 Sz8 (s, t, u, ()) fun r94 => (.i (!(r94 == 0)) (.i ((r91.1.i == 0) && ((decide (r91.1.p = [])) && ((decide (r91.1.c = [])) && ((decide (r91.1.n = [])) && true)))) (.i (r91.2.1 == r94) (.i (((r92.1.length : Nat) : Int) == 0) (.r (r92.2.1 == r94)) (.r false)) (.r false)) (.r false)) (.c Az9 Sz9 (s, t, u, ()) fun r95 => (.i (!r95.2.1) (.i (!((r91.1.i == 0) && ((decide (r91.1.p = [])) && ((decide (r91.1.c = [])) && ((decide (r91.1.n = [])) && true))))) (.r false) (.i (!(r91.2.1 == 7)) (.r false) (.i r95.2.1 (.i (!(r91.2.1 == 0)) (.r false) (.i (!((r91.1.i == r95.1.i) && ((decide (r91.1.p = r95.1.p)) && ((decide (r91.1.c = r95.1.c)) && ((decide (r91.1.n = r95.1.n)) && true))))) (.r false) (.i (r92.2.1 == 0) (.c ajs aqw (s, t, u, ()) fun r96 => (.c ajt aqx (r92.1, r96, ()) fun r97 => (.r r97))) (.r false)))) (.i (r92.2.1 == 0) (.c ajs aqw (s, t, u, ()) fun r98 => (.c ajt aqx (r92.1, r98, ()) fun r99 => (.r r99))) (.r false))))) (.i r95.2.1 (.i (!(r91.2.1 == 0)) (.r false) (.i (!((r91.1.i == r95.1.i) && ((decide (r91.1.p = r95.1.p)) && ((decide (r91.1.c = r95.1.c)) && ((decide (r91.1.n = r95.1.n)) && true))))) (.r false) (.i (r92.2.1 == 0) (.c ajs aqw (s, t, u, ()) fun r100 => (.c ajt aqx (r92.1, r100, ()) fun r101 => (.r r101))) (.r false)))) (.i (r92.2.1 == 0) (.c ajs aqw (s, t, u, ()) fun r102 => (.c ajt aqx (r92.1, r102, ()) fun r103 => (.r r103))) (.r false))))))) (.i (!(r93 == 0)) (.i ((r91.1.i == 0) && ((decide (r91.1.p = [])) && ((decide (r91.1.c = [])) && ((decide (r91.1.n = [])) && true)))) (.i (r91.2.1 == r93) (.i (((r92.1.length : Nat) : Int) == 0) (.r (r92.2.1 == r93)) (.r false)) (.r false)) (.r false)) (.c Az9 Sz9 (s, t, u, ()) fun r104 => (.i (!r104.2.1) (.i (!((r91.1.i == 0) && ((decide (r91.1.p = [])) && ((decide (r91.1.c = [])) && ((decide (r91.1.n = [])) && true))))) (.r false) (.i (!(r91.2.1 == 7)) (.r false) (.i r104.2.1 (.i (!(r91.2.1 == 0)) (.r false) (.i (!((r91.1.i == r104.1.i) && ((decide (r91.1.p = r104.1.p)) && ((decide (r91.1.c = r104.1.c)) && ((decide (r91.1.n = r104.1.n)) && true))))) (.r false) (.i (r92.2.1 == 0) (.c ajs aqw (s, t, u, ()) fun r105 => (.c ajt aqx (r92.1, r105, ()) fun r106 => (.r r106))) (.r false)))) (.i (r92.2.1 == 0) (.c ajs aqw (s, t, u, ()) fun r107 => (.c ajt aqx (r92.1, r107, ()) fun r108 => (.r r108))) (.r false))))) (.i r104.2.1 (.i (!(r91.2.1 == 0)) (.r false) (.i (!((r91.1.i == r104.1.i) && ((decide (r91.1.p = r104.1.p)) && ((decide (r91.1.c = r104.1.c)) && ((decide (r91.1.n = r104.1.n)) && true))))) (.r false) (.i (r92.2.1 == 0) (.c ajs aqw (s, t, u, ()) fun r109 => (.c ajt aqx (r92.1, r109, ()) fun r110 => (.r r110))) (.r false)))) (.i (r92.2.1 == 0) (.c ajs aqw (s, t, u, ()) fun r111 => (.c ajt aqx (r92.1, r111, ()) fun r112 => (.r r112))) (.r false))))))))) .n)) .n)))))))))))
noncomputable def Tz3 (s : Lu) (t : Int) (u : List (List Nat)) : Tr Bool Lz3 (sLz3 s t u) cB.v := (.c Aw4 Sw4 (()) fun r76 => (.i (!r76) (.c Aw4 Sw4 (()) fun r77 => (.r r77)) (.i (decide (20 < ((u.length : Nat) : Int))) (.i (decide (((u.length : Nat) : Int) ≤ 256)) (.c Aw4 Sw4 (()) fun r78 => (.r r78)) (.i (decide (258 < ((u.length : Nat) : Int))) (.c Aw4 Sw4 (()) fun r79 => (.r r79)) (.g (.k8 0)))) (.i (decide (258 < ((u.length : Nat) : Int))) (.c Aw4 Sw4 (()) fun r80 => (.r r80)) (.g (.k8 0))))))
noncomputable def Ez3J (s : Lu) (t : Int) (u : List (List Nat)) := Tr.lp (Tz3J s t u)
theorem axX {s : Lu} {t : Int} {u : List (List Nat)} {n : Nat} {l_ : Lz3} : Ez3J s t u (n + 1) l_ = (Tz3J s t u l_).d (Ez3J s t u n) := rfl
noncomputable def Ez3 (n : Nat) (s : Lu) (t : Int) (u : List (List Nat)) := (Tz3 s t u).d (Ez3J s t u n)
noncomputable def Sz3 (x : Lu × Int × (List (List Nat)) × Unit) := Ez3 (x.2.2.1.length + 64) x.1 x.2.1 x.2.2.1
noncomputable def wz3 : Wk (Lu × Int × (List (List Nat)) × Unit) Bool Lz3 cB.v := ⟨fun x => sLz3 x.1 x.2.1 x.2.2.1, uz3, fun x => Tz3 x.1 x.2.1 x.2.2.1, fun x => Tz3J x.1 x.2.1 x.2.2.1⟩
noncomputable def Kz3 := j1 3 Tryz.func3 [Kw4, Kz5, Kz6, Kz7, Kz8, Kz9, Kf26, Kz11] noZ ⟨143, (lookA [(4, ⟨[1, 2, 3, 36, 37, 38], [0], 1, [], [], []⟩)]), noL, noL⟩ 64 Az3 cB Sz3 wz3 (fun x => x.2.2.1.length + 64)
end
end Go.Ev
