import Derived.Test.YtldebobgefdnhaaGreatDoorEvD
import Derived.Test.YtldebobgefdnhaaGreatDoorDBase
import Derived.Test.YtldebobgefdnhaaGreatDoorAwk
set_option linter.unusedSimpArgs false
set_option linter.unusedVariables false
namespace Go.Ev
open Go.RowKit Go.Proofs
set_option maxRecDepth 100000
set_option maxHeartbeats 4000000
set_option linter.unusedVariables false
noncomputable section
noncomputable def Aw5 : Row Unit := Row.nil
noncomputable def Sw5 (_ : Unit) : Option Bool := some true
theorem fnw5 : Fn Tryz.prog gT 5 (fOf Aw5 cB Sw5) := fun B0 W0 G a v hF => fn5 B0 W0 G a v (by
 obtain ⟨x, r, rfl, h, rfl⟩ := fOf_inv hF
 cases h
 rfl)
noncomputable def Kw5 : Con Tryz.prog gT := Con.of 5 Aw5 cB Sw5 fnw5
noncomputable def Az59 := (Row.cons cI Row.nil)
noncomputable def Tz59 (s : Int) : Tr Sk Empty noS (Cod.agg rSk).v := (.r (⟨s, s, s, s⟩ : Sk))
noncomputable def Ez59 (s : Int) := (Tz59 s).d noE
noncomputable def Sz59 (x : Int × Unit) := Ez59 x.1
noncomputable def wz59 : Wk (Int × Unit) Sk Empty (Cod.agg rSk).v := wk0 fun x => Tz59 x.1
noncomputable def Kz59 := sZ 59 Tryz.func59 [] noZ ⟨8, noL, noL, noL⟩ 128 Az59 (Cod.agg rSk) Sz59 wz59 (fun _ => 0)
noncomputable def Az28 := (Row.cons (Cod.agg rSk) (Row.cons (Cod.agg rSk) Row.nil))
noncomputable def Tz28 (s : Sk) (t : Sk) : Tr Sk Empty noS (Cod.agg rSk).v := (.c Az59 Sz59 (s.g, ()) fun r4 => (.i ((s.g == r4.g) && ((s.f == r4.f) && ((s.l == r4.l) && ((s.m == r4.m) && true)))) (.c Az59 Sz59 (t.g, ()) fun r5 => (.i ((t.g == r5.g) && ((t.f == r5.f) && ((t.l == r5.l) && ((t.m == r5.m) && true)))) (.r (⟨(w6 (s.g + t.g)), (w6 (s.f + t.f)), (w6 (t.l + s.l)), (bif (decide ((bif (decide (s.m < t.m)) then t.m else s.m) < (w6 (s.l + t.f)))) then (w6 (s.l + t.f)) else (bif (decide (s.m < t.m)) then t.m else s.m))⟩ : Sk)) (.r (⟨(w6 (s.g + t.g)), (w6 (s.f + t.f)), t.l, (bif (decide ((bif (decide (s.m < t.m)) then t.m else s.m) < (w6 (s.l + t.f)))) then (w6 (s.l + t.f)) else (bif (decide (s.m < t.m)) then t.m else s.m))⟩ : Sk)))) (.c Az59 Sz59 (t.g, ()) fun r6 => (.i ((t.g == r6.g) && ((t.f == r6.f) && ((t.l == r6.l) && ((t.m == r6.m) && true)))) (.r (⟨(w6 (s.g + t.g)), s.f, (w6 (t.l + s.l)), (bif (decide ((bif (decide (s.m < t.m)) then t.m else s.m) < (w6 (s.l + t.f)))) then (w6 (s.l + t.f)) else (bif (decide (s.m < t.m)) then t.m else s.m))⟩ : Sk)) (.r (⟨(w6 (s.g + t.g)), s.f, t.l, (bif (decide ((bif (decide (s.m < t.m)) then t.m else s.m) < (w6 (s.l + t.f)))) then (w6 (s.l + t.f)) else (bif (decide (s.m < t.m)) then t.m else s.m))⟩ : Sk))))))
noncomputable def Ez28 (s : Sk) (t : Sk) := (Tz28 s t).d noE
noncomputable def Sz28 (x : Sk × Sk × Unit) := Ez28 x.1 x.2.1
noncomputable def wz28 : Wk (Sk × Sk × Unit) Sk Empty (Cod.agg rSk).v := wk0 fun x => Tz28 x.1 x.2.1
noncomputable def Kz28 := sZ 28 Tryz.func28 [Kz59] noZ ⟨49, noL, noL, noL⟩ 128 Az28 (Cod.agg rSk) Sz28 wz28 (fun _ => 0)
noncomputable def Az25 := (Row.cons (Cod.list false pK) Row.nil)
inductive Lz25 where
 | k6 (x3 : Int) (x4 : Int) (x5 : Int) (x6 : Int) (x7 : Int)
noncomputable def uz25 : Lz25 → Nat
 | .k6 _ _ _ _ _ => 6
noncomputable def sLz25 (s : List (Bool)) : Lz25 → D
 | .k6 x3 x4 x5 x6 x7 => mD [(2, .ptr 0 0), (3, .ptr 1 0), (7, (Cod.list false pK).v s), (8, .int .i64 ((s.length : Nat) : Int)), (9, .int .i64 x3)] 2 [(0, .row ⟨[.int .i64 0, .int .i64 0, .int .i64 0, .int .i64 0], 26, false⟩), (1, .row ⟨[.int .i64 x4, .int .i64 x5, .int .i64 x6, .int .i64 x7], 26, false⟩)] 128 []
noncomputable def aqz (s : List (Bool)) : (l_ : Lz25) → Tr Sk Lz25 (sLz25 s) (Cod.agg rSk).v
 | .k6 x3 x4 x5 x6 x7 => (.i (decide (x3 < ((s.length : Nat) : Int))) (.i (inR x3 s.length) (.i (s.getD x3.toNat false) (.c Az59 Sz59 (1, ()) fun r12 => (.c Az28 Sz28 ((⟨x4, x5, x6, x7⟩ : Sk), r12, ()) fun r13 => (.g (.k6 (w6 (x3 + 1)) r13.g r13.f r13.l r13.m)))) (.c Az28 Sz28 ((⟨x4, x5, x6, x7⟩ : Sk), (⟨1, 0, 0, 0⟩ : Sk), ()) fun r14 => (.g (.k6 (w6 (x3 + 1)) r14.g r14.f r14.l r14.m)))) .n) (.r (⟨x4, x5, x6, x7⟩ : Sk)))
noncomputable def Tz25 (s : List (Bool)) : Tr Sk Lz25 (sLz25 s) (Cod.agg rSk).v := (.g (.k6 0 0 0 0 0))
noncomputable def aqH (s : List (Bool)) := Tr.lp (aqz s)
theorem Ez25J_s {s : List (Bool)} {n : Nat} {l_ : Lz25} : aqH s (n + 1) l_ = (aqz s l_).d (aqH s n) := rfl
noncomputable def Ez25 (n : Nat) (s : List (Bool)) := (Tz25 s).d (aqH s n)
noncomputable def Sz25 (x : (List (Bool)) × Unit) := Ez25 (x.1.length + 64) x.1
noncomputable def wz25 : Wk ((List (Bool)) × Unit) Sk Lz25 (Cod.agg rSk).v := ⟨fun x => sLz25 x.1, uz25, fun x => Tz25 x.1, fun x => aqz x.1⟩
noncomputable def Kz25 := sZ 25 Tryz.func25 [Kz28, Kz59] noZ ⟨21, (lookA [(3, ⟨[2, 3, 7, 8, 9], [0, 1], 2, [], [], []⟩)]), noL, noL⟩ 128 Az25 (Cod.agg rSk) Sz25 wz25 (fun x => x.1.length + 64)
noncomputable def Az6 := (Row.cons (Cod.list false pK) Row.nil)
noncomputable def Tz6 (s : List (Bool)) : Tr ((Sk) × (Int) × Unit) Empty noS (Cod.tup (Row.cons (Cod.agg rSk) (Row.cons cI Row.nil))).v := (.i (decide (256 < ((s.length : Nat) : Int))) (.r ((⟨0, 0, 0, 0⟩ : Sk), 5, ())) (.c Az25 Sz25 (s, ()) fun r2 => (.r (r2, 0, ()))))
noncomputable def Ez6 (s : List (Bool)) := (Tz6 s).d noE
noncomputable def Sz6 (x : (List (Bool)) × Unit) := Ez6 x.1
noncomputable def wz6 : Wk ((List (Bool)) × Unit) ((Sk) × (Int) × Unit) Empty (Cod.tup (Row.cons (Cod.agg rSk) (Row.cons cI Row.nil))).v := wk0 fun x => Tz6 x.1
noncomputable def Kz6 := sZ 6 Tryz.func6 [Kz25] noZ ⟨10, noL, noL, noL⟩ 128 Az6 (Cod.tup (Row.cons (Cod.agg rSk) (Row.cons cI Row.nil))) Sz6 wz6 (fun _ => 0)
noncomputable def Az60 := (Row.cons cI (Row.cons cI (Row.cons cI Row.nil)))
noncomputable def Tz60 (s : Int) (t : Int) (u : Int) : Tr Bool Empty noS cB.v := (.i (decide (t ≤ s)) (.r (decide (s ≤ u))) (.r false))
noncomputable def Ez60 (s : Int) (t : Int) (u : Int) := (Tz60 s t u).d noE
noncomputable def Sz60 (x : Int × Int × Int × Unit) := Ez60 x.1 x.2.1 x.2.2.1
noncomputable def wz60 : Wk (Int × Int × Int × Unit) Bool Empty cB.v := wk0 fun x => Tz60 x.1 x.2.1 x.2.2.1
noncomputable def Kz60 := sZ 60 Tryz.func60 [] noZ ⟨15, noL, noL, noL⟩ 128 Az60 cB Sz60 wz60 (fun _ => 0)
noncomputable def Az27 := (Row.cons cI (Row.cons cI (Row.cons (Cod.list 0 rInt) Row.nil)))
inductive Lz27 where
 | k4 (x2 : Int)
noncomputable def uz27 : Lz27 → Nat
 | .k4 _ => 4
noncomputable def sLz27 (s : Int) (t : Int) (u : List (Int)) : Lz27 → D
 | .k4 x2 => mD [(0, .int .i64 s), (1, .int .i64 t), (9, (Cod.list 0 rInt).v u), (10, .int .i64 ((u.length : Nat) : Int)), (11, .int .i64 x2)] 0 [] 128 []
noncomputable def aqD (s : Int) (t : Int) (u : List (Int)) : (l_ : Lz27) → Tr Int Lz27 (sLz27 s t u) cI.v
 | .k4 x2 => (.i (decide (x2 < ((u.length : Nat) : Int))) (.i (inR x2 u.length) (.c Az60 Sz60 ((u.getD x2.toNat 0), s, t, ()) fun r4 => (.i (!r4) (.r 3) (.g (.k4 (w6 (x2 + 1)))))) .n) (.r 0))
noncomputable def Tz27 (s : Int) (t : Int) (u : List (Int)) : Tr Int Lz27 (sLz27 s t u) cI.v := (.g (.k4 0))
noncomputable def ajB (s : Int) (t : Int) (u : List (Int)) := Tr.lp (aqD s t u)
theorem aqF {s : Int} {t : Int} {u : List (Int)} {n : Nat} {l_ : Lz27} : ajB s t u (n + 1) l_ = (aqD s t u l_).d (ajB s t u n) := rfl
noncomputable def Ez27 (n : Nat) (s : Int) (t : Int) (u : List (Int)) := (Tz27 s t u).d (ajB s t u n)
noncomputable def Sz27 (x : Int × Int × (List (Int)) × Unit) := Ez27 (x.2.2.1.length + 64) x.1 x.2.1 x.2.2.1
noncomputable def wz27 : Wk (Int × Int × (List (Int)) × Unit) Int Lz27 cI.v := ⟨fun x => sLz27 x.1 x.2.1 x.2.2.1, uz27, fun x => Tz27 x.1 x.2.1 x.2.2.1, fun x => aqD x.1 x.2.1 x.2.2.1⟩
noncomputable def Kz27 := sZ 27 Tryz.func27 [Kz60] noZ ⟨21, (lookA [(2, ⟨[0, 1, 9, 10, 11], [], 0, [], [], []⟩)]), noL, noL⟩ 128 Az27 cI Sz27 wz27 (fun x => x.2.2.1.length + 64)
noncomputable def Az30 := (Row.cons (Cod.agg rSk) Row.nil)
noncomputable def Tz30 (s : Sk) : Tr Bool Empty noS cB.v := (.c Az60 Sz60 (s.f, 0, s.m, ()) fun r4 => (.i (!r4) (.r false) (.c Az60 Sz60 (s.l, 0, s.m, ()) fun r5 => (.i (!r5) (.r false) (.i (decide (s.g < s.m)) (.r false) (.i (s.m == s.g) (.c Az59 Sz59 (s.g, ()) fun r6 => (.r ((s.g == r6.g) && ((s.f == r6.f) && ((s.l == r6.l) && ((s.m == r6.m) && true)))))) (.i (decide ((bif (decide (s.f < s.l)) then s.l else s.f) < s.m)) (.r (decide ((w6 ((w6 ((w6 (s.f + s.l)) + 1)) + (w6 (s.m + 1)))) ≤ s.g))) (.r (decide ((w6 ((w6 (s.f + s.l)) + 1)) ≤ s.g))))))))))
noncomputable def Ez30 (s : Sk) := (Tz30 s).d noE
noncomputable def Sz30 (x : Sk × Unit) := Ez30 x.1
noncomputable def wz30 : Wk (Sk × Unit) Bool Empty cB.v := wk0 fun x => Tz30 x.1
noncomputable def Kz30 := sZ 30 Tryz.func30 [Kz59, Kz60] noZ ⟨58, noL, noL, noL⟩ 128 Az30 cB Sz30 wz30 (fun _ => 0)
noncomputable def Az12 := (Row.cons (Cod.agg rSk) Row.nil)
noncomputable def Tz12 (s : Sk) : Tr Int Empty noS cI.v := (.c Az27 Sz27 (0, 999999999, [s.g], ()) fun r3 => (.i (!(r3 == 0)) (.r r3) (.c Az30 Sz30 (s, ()) fun r4 => (.i (!r4) (.r 1) (.r 0)))))
noncomputable def Ez12 (s : Sk) := (Tz12 s).d noE
noncomputable def Sz12 (x : Sk × Unit) := Ez12 x.1
noncomputable def wz12 : Wk (Sk × Unit) Int Empty cI.v := wk0 fun x => Tz12 x.1
noncomputable def Kz12 := sZ 12 Tryz.func12 [Kz27, Kz30] noZ ⟨14, noL, noL, noL⟩ 128 Az12 cI Sz12 wz12 (fun _ => 0)
noncomputable def Az26 := (Row.cons (Cod.list 0 rInt) Row.nil)
inductive Lz26 where
 | k4 (x1 : Int)
noncomputable def uz26 : Lz26 → Nat
 | .k4 _ => 4
noncomputable def sLz26 (s : List (Int)) : Lz26 → D
 | .k4 x1 => mD [(5, (Cod.list 0 rInt).v s), (6, .int .i64 ((s.length : Nat) : Int)), (7, .int .i64 x1)] 0 [] 128 []
noncomputable def aqy (s : List (Int)) : (l_ : Lz26) → Tr Int Lz26 (sLz26 s) cI.v
 | .k4 x1 => (.i (decide (x1 < ((s.length : Nat) : Int))) (.i (inR x1 s.length) (.i (!((s.getD x1.toNat 0) == 0)) (.r (s.getD x1.toNat 0)) (.g (.k4 (w6 (x1 + 1))))) .n) (.r 0))
noncomputable def Tz26 (s : List (Int)) : Tr Int Lz26 (sLz26 s) cI.v := (.g (.k4 0))
noncomputable def aqG (s : List (Int)) := Tr.lp (aqy s)
theorem Ez26J_s {s : List (Int)} {n : Nat} {l_ : Lz26} : aqG s (n + 1) l_ = (aqy s l_).d (aqG s n) := rfl
noncomputable def Ez26 (n : Nat) (s : List (Int)) := (Tz26 s).d (aqG s n)
noncomputable def Sz26 (x : (List (Int)) × Unit) := Ez26 (x.1.length + 64) x.1
noncomputable def wz26 : Wk ((List (Int)) × Unit) Int Lz26 cI.v := ⟨fun x => sLz26 x.1, uz26, fun x => Tz26 x.1, fun x => aqy x.1⟩
noncomputable def Kz26 := sZ 26 Tryz.func26 [] noZ ⟨15, (lookA [(2, ⟨[5, 6, 7], [], 0, [], [], []⟩)]), noL, noL⟩ 128 Az26 cI Sz26 wz26 (fun x => x.1.length + 64)
noncomputable def Az7 := (Row.cons (Cod.agg rSk) (Row.cons (Cod.agg rSk) Row.nil))
noncomputable def Tz7 (s : Sk) (t : Sk) : Tr ((Sk) × (Int) × Unit) Empty noS (Cod.tup (Row.cons (Cod.agg rSk) (Row.cons cI Row.nil))).v := (.c Az12 Sz12 (s, ()) fun r6 => (.c Az12 Sz12 (t, ()) fun r7 => (.c Az27 Sz27 (0, 999999999, [(w6 (s.g + t.g))], ()) fun r8 => (.c Az26 Sz26 ([r6, r7, r8], ()) fun r9 => (.i (!(r9 == 0)) (.r ((⟨0, 0, 0, 0⟩ : Sk), r9, ())) (.c Az28 Sz28 (s, t, ()) fun r10 => (.r (r10, 0, ()))))))))
noncomputable def Ez7 (s : Sk) (t : Sk) := (Tz7 s t).d noE
noncomputable def Sz7 (x : Sk × Sk × Unit) := Ez7 x.1 x.2.1
noncomputable def wz7 : Wk (Sk × Sk × Unit) ((Sk) × (Int) × Unit) Empty (Cod.tup (Row.cons (Cod.agg rSk) (Row.cons cI Row.nil))).v := wk0 fun x => Tz7 x.1 x.2.1
noncomputable def Kz7 := sZ 7 Tryz.func7 [Kz12, Kz26, Kz27, Kz28] noZ ⟨27, noL, noL, noL⟩ 128 Az7 (Cod.tup (Row.cons (Cod.agg rSk) (Row.cons cI Row.nil))) Sz7 wz7 (fun _ => 0)
noncomputable def Az8 := (Row.cons (Cod.list false pK) Row.nil)
inductive Lz8 where
 | k8 (x1 : Int) (x2 : Int) (x3 : Int) (x4 : Int)
noncomputable def uz8 : Lz8 → Nat
 | .k8 _ _ _ _ => 8
noncomputable def sLz8 (s : List (Bool)) : Lz8 → D
 | .k8 x1 x2 x3 x4 => mD [(0, (Cod.list false pK).v s), (2, .ptr 0 0), (3, .ptr 1 0), (4, .int .i64 x1), (5, .int .i64 x2)] 2 [(0, .row ⟨[.int .i64 0, .int .i64 0, .int .i64 0, .int .i64 0], 24, false⟩), (1, .row ⟨[.int .i64 ((s.length : Nat) : Int), .int .i64 x3, .int .i64 0, .int .i64 x4], 24, false⟩)] 128 []
noncomputable def Tz8J (s : List (Bool)) : (l_ : Lz8) → Tr Sk Lz8 (sLz8 s) (Cod.agg rSk).v
 | .k8 x1 x2 x3 x4 => (.i (decide (x2 < ((s.length : Nat) : Int))) (.i (inR x2 s.length) (.i (s.getD x2.toNat false) (.i ((w6 (x1 + 1)) == (w6 (x2 + 1))) (.g (.k8 (w6 (x1 + 1)) (w6 (x2 + 1)) (w6 (x1 + 1)) (bif (decide (x4 < (w6 (x1 + 1)))) then (w6 (x1 + 1)) else x4))) (.g (.k8 (w6 (x1 + 1)) (w6 (x2 + 1)) x3 (bif (decide (x4 < (w6 (x1 + 1)))) then (w6 (x1 + 1)) else x4)))) (.i (0 == (w6 (x2 + 1))) (.g (.k8 0 (w6 (x2 + 1)) 0 (bif (decide (x4 < 0)) then 0 else x4))) (.g (.k8 0 (w6 (x2 + 1)) x3 (bif (decide (x4 < 0)) then 0 else x4))))) .n) (.r (⟨((s.length : Nat) : Int), x3, x1, x4⟩ : Sk)))
noncomputable def Tz8 (s : List (Bool)) : Tr Sk Lz8 (sLz8 s) (Cod.agg rSk).v := (.g (.k8 0 0 0 0))
noncomputable def Ez8J (s : List (Bool)) := Tr.lp (Tz8J s)
theorem Ez8J_s {s : List (Bool)} {n : Nat} {l_ : Lz8} : Ez8J s (n + 1) l_ = (Tz8J s l_).d (Ez8J s n) := rfl
noncomputable def Ez8 (n : Nat) (s : List (Bool)) := (Tz8 s).d (Ez8J s n)
noncomputable def Sz8 (x : (List (Bool)) × Unit) := Ez8 (x.1.length + 64) x.1
noncomputable def wz8 : Wk ((List (Bool)) × Unit) Sk Lz8 (Cod.agg rSk).v := ⟨fun x => sLz8 x.1, uz8, fun x => Tz8 x.1, fun x => Tz8J x.1⟩
noncomputable def Kz8 := sZ 8 Tryz.func8 [] noZ ⟨35, (lookA [(4, ⟨[0, 2, 3, 4, 5], [0, 1], 2, [], [], []⟩)]), noL, noL⟩ 128 Az8 (Cod.agg rSk) Sz8 wz8 (fun x => x.1.length + 64)
noncomputable def Az29 := (Row.cons cI (Row.cons cI (Row.cons cI Row.nil)))
noncomputable def Tz29 (s : Int) (t : Int) (u : Int) : Tr Int Empty noS cI.v := (.i (decide (s < t)) (.r 3) (.i (decide (u < s)) (.r 3) (.r 0)))
noncomputable def Ez29 (s : Int) (t : Int) (u : Int) := (Tz29 s t u).d noE
noncomputable def Sz29 (x : Int × Int × Int × Unit) := Ez29 x.1 x.2.1 x.2.2.1
noncomputable def wz29 : Wk (Int × Int × Int × Unit) Int Empty cI.v := wk0 fun x => Tz29 x.1 x.2.1 x.2.2.1
noncomputable def Kz29 := sZ 29 Tryz.func29 [] noZ ⟨15, noL, noL, noL⟩ 128 Az29 cI Sz29 wz29 (fun _ => 0)
noncomputable def Az10 := (Row.cons (Cod.agg rSk) Row.nil)
noncomputable def Tz10 (s : Sk) : Tr Int Empty noS cI.v := (.c Az29 Sz29 (s.g, 0, 999999999, ()) fun r2 => (.i (!(r2 == 0)) (.r r2) (.i (decide (s.f < 0)) (.r 1) (.i (decide (s.l < 0)) (.r 1) (.i (decide (s.m < s.f)) (.r 1) (.i (decide (s.m < s.l)) (.r 1) (.i (decide (s.g < s.m)) (.r 1) (.i (s.m == s.g) (.i (!(s.f == s.g)) (.r 1) (.i (!(s.l == s.g)) (.r 1) (.r 0))) (.i (decide ((w6 (s.g - 1)) < (w6 (s.f + s.l)))) (.r 1) (.i (decide ((bif (decide (s.f < s.l)) then s.l else s.f) < s.m)) (.i (decide ((w6 (s.g - 2)) < (w6 ((w6 (s.f + s.l)) + s.m)))) (.r 1) (.r 0)) (.r 0)))))))))))
noncomputable def Ez10 (s : Sk) := (Tz10 s).d noE
noncomputable def Sz10 (x : Sk × Unit) := Ez10 x.1
noncomputable def wz10 : Wk (Sk × Unit) Int Empty cI.v := wk0 fun x => Tz10 x.1
noncomputable def Kz10 := sZ 10 Tryz.func10 [Kz29] noZ ⟨89, noL, noL, noL⟩ 128 Az10 cI Sz10 wz10 (fun _ => 0)
noncomputable def Az9 := (Row.cons (Cod.list 0 rInt) Row.nil)
inductive Lz9 where
 | k4 (x1 : Int)
noncomputable def uz9 : Lz9 → Nat
 | .k4 _ => 4
noncomputable def sLz9 (s : List (Int)) : Lz9 → D
 | .k4 x1 => mD [(0, (Cod.list 0 rInt).v s), (3, .int .i64 x1)] 0 [] 128 []
noncomputable def Tz9J (s : List (Int)) : (l_ : Lz9) → Tr Int Lz9 (sLz9 s) cI.v
 | .k4 x1 => (.i (decide (x1 < ((s.length : Nat) : Int))) (.i (inR x1 s.length) (.i (!((s.getD x1.toNat 0) == 0)) (.i (inR x1 s.length) (.r (s.getD x1.toNat 0)) .n) (.g (.k4 (w6 (x1 + 1))))) .n) (.r 0))
noncomputable def Tz9 (s : List (Int)) : Tr Int Lz9 (sLz9 s) cI.v := (.g (.k4 0))
noncomputable def Ez9J (s : List (Int)) := Tr.lp (Tz9J s)
theorem Ez9J_s {s : List (Int)} {n : Nat} {l_ : Lz9} : Ez9J s (n + 1) l_ = (Tz9J s l_).d (Ez9J s n) := rfl
noncomputable def Ez9 (n : Nat) (s : List (Int)) := (Tz9 s).d (Ez9J s n)
noncomputable def Sz9 (x : (List (Int)) × Unit) := Ez9 (x.1.length + 64) x.1
noncomputable def wz9 : Wk ((List (Int)) × Unit) Int Lz9 cI.v := ⟨fun x => sLz9 x.1, uz9, fun x => Tz9 x.1, fun x => Tz9J x.1⟩
noncomputable def Kz9 := sZ 9 Tryz.func9 [] noZ ⟨19, (lookA [(2, ⟨[0, 3], [], 0, [], [], []⟩)]), noL, noL⟩ 128 Az9 cI Sz9 wz9 (fun x => x.1.length + 64)
noncomputable def Az11 := (Row.cons (Cod.agg rSk) (Row.cons (Cod.agg rSk) Row.nil))
noncomputable def Tz11 (s : Sk) (t : Sk) : Tr Sk Empty noS (Cod.agg rSk).v := (.i (s.f == s.g) (.i (t.l == t.g) (.r (⟨(w6 (s.g + t.g)), (w6 (s.g + t.f)), (w6 (s.l + t.g)), (bif (decide ((bif (decide (s.m < t.m)) then t.m else s.m) < (w6 (s.l + t.f)))) then (w6 (s.l + t.f)) else (bif (decide (s.m < t.m)) then t.m else s.m))⟩ : Sk)) (.r (⟨(w6 (s.g + t.g)), (w6 (s.g + t.f)), t.l, (bif (decide ((bif (decide (s.m < t.m)) then t.m else s.m) < (w6 (s.l + t.f)))) then (w6 (s.l + t.f)) else (bif (decide (s.m < t.m)) then t.m else s.m))⟩ : Sk))) (.i (t.l == t.g) (.r (⟨(w6 (s.g + t.g)), s.f, (w6 (s.l + t.g)), (bif (decide ((bif (decide (s.m < t.m)) then t.m else s.m) < (w6 (s.l + t.f)))) then (w6 (s.l + t.f)) else (bif (decide (s.m < t.m)) then t.m else s.m))⟩ : Sk)) (.r (⟨(w6 (s.g + t.g)), s.f, t.l, (bif (decide ((bif (decide (s.m < t.m)) then t.m else s.m) < (w6 (s.l + t.f)))) then (w6 (s.l + t.f)) else (bif (decide (s.m < t.m)) then t.m else s.m))⟩ : Sk))))
noncomputable def Ez11 (s : Sk) (t : Sk) := (Tz11 s t).d noE
noncomputable def Sz11 (x : Sk × Sk × Unit) := Ez11 x.1 x.2.1
noncomputable def wz11 : Wk (Sk × Sk × Unit) Sk Empty (Cod.agg rSk).v := wk0 fun x => Tz11 x.1 x.2.1
noncomputable def Kz11 := sZ 11 Tryz.func11 [] noZ ⟨49, noL, noL, noL⟩ 128 Az11 (Cod.agg rSk) Sz11 wz11 (fun _ => 0)
end
end Go.Ev
