import Derived.Test.YtldebobgefdnhaaGreatDoorDS1
set_option linter.unusedSimpArgs false
set_option linter.unusedVariables false
namespace Go.Ev
open Go.RowKit Go.Proofs
set_option maxRecDepth 100000
set_option maxHeartbeats 4000000
set_option linter.unusedVariables false
noncomputable section
noncomputable def Az3 := (Row.cons (Cod.list false pK) (Row.cons (Cod.agg rSk) (Row.cons (Cod.agg rSk) Row.nil)))
inductive Lz3 where
 | k7
 | k21 (x8 : Int) (x9 : Int) (x10 : Int) (x11 : Int) (x12 : Int) (x13 : Int) (x14 : Int) (x15 : Int) (x16 : Int) (x17 : Int) (x19 : Int) (x20 : Int) (x21 : Int) (x22 : Int) (x23 : Int)
 | k31 (x27 : Int) (x28 : Int) (x29 : Int) (x30 : Int) (x31 : Int) (x32 : Int) (x33 : Int) (x34 : Int) (x35 : Int) (x36 : Int) (x37 : Int) (x38 : Int) (x39 : Int) (x40 : Int) (x41 : Int) (x43 : Int) (x44 : Int) (x45 : Int) (x46 : Int) (x47 : Int)
noncomputable def uz3 : Lz3 → Nat
 | .k7 => 7
 | .k21 _ _ _ _ _ _ _ _ _ _ _ _ _ _ _ => 21
 | .k31 _ _ _ _ _ _ _ _ _ _ _ _ _ _ _ _ _ _ _ _ => 31
noncomputable def sLz3 (s : List (Bool)) (t : Sk) (u : Sk) : Lz3 → D
 | .k7 => mD [(0, (Cod.list false pK).v s), (4, .ptr 0 0), (5, .ptr 1 0)] 2 [(0, .row ⟨(rSk.v t), 24, false⟩), (1, .row ⟨(rSk.v u), 24, false⟩)] 64 []
 | .k21 x8 x9 x10 x11 x12 x13 x14 x15 x16 x17 x19 x20 x21 x22 x23 => mD [(4, .ptr 0 0), (5, .ptr 1 0), (7, .ptr 4 0), (8, .int .i64 x8), (9, .ptr 5 0), (10, .int .i64 x9), (11, .ptr 6 0), (12, .ptr 7 0), (13, .int .i64 x19)] 8 [(0, .row ⟨(rSk.v t), 24, false⟩), (1, .row ⟨(rSk.v u), 24, false⟩), (4, .row ⟨[.int .i64 x10, .int .i64 x11, .int .i64 x12, .int .i64 x13], 26, false⟩), (5, .row ⟨[.int .i64 x14, .int .i64 x15, .int .i64 x16, .int .i64 x17], 26, false⟩), (6, .row ⟨[.int .i64 x20, .int .i64 x21, .int .i64 x22, .int .i64 x23], 24, false⟩), (7, .row ⟨[.int .i64 0, .int .i64 0, .int .i64 0, .int .i64 0], 24, false⟩)] 64 []
 | .k31 x27 x28 x29 x30 x31 x32 x33 x34 x35 x36 x37 x38 x39 x40 x41 x43 x44 x45 x46 x47 => mD [(4, .ptr 0 0), (7, .ptr 4 0), (8, .int .i64 x27), (9, .ptr 5 0), (10, .int .i64 x28), (11, .ptr 6 0), (12, .ptr 7 0), (13, .int .i64 x29), (14, .int .i64 x43)] 8 [(0, .row ⟨(rSk.v t), 24, false⟩), (4, .row ⟨[.int .i64 x30, .int .i64 x31, .int .i64 x32, .int .i64 x33], 26, false⟩), (5, .row ⟨[.int .i64 x34, .int .i64 x35, .int .i64 x36, .int .i64 x37], 26, false⟩), (6, .row ⟨[.int .i64 x38, .int .i64 x39, .int .i64 x40, .int .i64 x41], 24, false⟩), (7, .row ⟨[.int .i64 x44, .int .i64 x45, .int .i64 x46, .int .i64 x47], 24, false⟩)] 128 []
noncomputable def Tz3J (s : List (Bool)) (t : Sk) (u : Sk) : (l_ : Lz3) → Tr Bool Lz3 (sLz3 s t u) cB.v
 | .k7 => (.i (Nat.ble (1 * s.length) 1000000) (.c Az6 Sz6 (s, ()) fun r60 => (.c Az7 Sz7 (t, u, ()) fun r61 => (.i (decide (256 < ((s.length : Nat) : Int))) (.g (.k21 r60.2.1 r61.2.1 r60.1.g r60.1.f r60.1.l r60.1.m r61.1.g r61.1.f r61.1.l r61.1.m 5 0 0 0 0)) (.c Az8 Sz8 (s, ()) fun r62 => (.g (.k21 r60.2.1 r61.2.1 r60.1.g r60.1.f r60.1.l r60.1.m r61.1.g r61.1.f r61.1.l r61.1.m 0 r62.g r62.f r62.l r62.m)))))) .n)
 | .k21 x8 x9 x10 x11 x12 x13 x14 x15 x16 x17 x19 x20 x21 x22 x23 => (.c Az10 Sz10 (t, ()) fun r63 => (.c Az10 Sz10 (u, ()) fun r64 => (.c Az9 Sz9 ([r63, r64], ()) fun r65 => (.i (r65 == 0) (.i (decide (999999999 < (w6 (t.g + u.g)))) (.g (.k31 x8 x9 x19 x10 x11 x12 x13 x14 x15 x16 x17 x20 x21 x22 x23 3 0 0 0 0)) (.c Az11 Sz11 (t, u, ()) fun r66 => (.g (.k31 x8 x9 x19 x10 x11 x12 x13 x14 x15 x16 x17 x20 x21 x22 x23 r65 r66.g r66.f r66.l r66.m)))) (.g (.k31 x8 x9 x19 x10 x11 x12 x13 x14 x15 x16 x17 x20 x21 x22 x23 r65 0 0 0 0))))))
 | .k31 x27 x28 x29 x30 x31 x32 x33 x34 x35 x36 x37 x38 x39 x40 x41 x43 x44 x45 x46 x47 => (.i ((x30 == x38) && ((x31 == x39) && ((x32 == x40) && ((x33 == x41) && true)))) (.i (x27 == x29) (.c Az12 Sz12 (t, ()) fun r67 => (.c Az10 Sz10 (t, ()) fun r68 => (.i (r67 == r68) (.i ((x34 == x44) && ((x35 == x45) && ((x36 == x46) && ((x37 == x47) && true)))) (.r (x28 == x43)) (.r false)) (.r false)))) (.r false)) (.r false))
noncomputable def Tz3 (s : List (Bool)) (t : Sk) (u : Sk) : Tr Bool Lz3 (sLz3 s t u) cB.v := (.c Aw5 Sw5 (()) fun r55 => (.i (!r55) (.c Aw5 Sw5 (()) fun r56 => (.r r56)) (.i (decide (12 < ((s.length : Nat) : Int))) (.i (decide (((s.length : Nat) : Int) ≤ 256)) (.c Aw5 Sw5 (()) fun r57 => (.r r57)) (.i (decide (258 < ((s.length : Nat) : Int))) (.c Aw5 Sw5 (()) fun r58 => (.r r58)) (.g .k7))) (.i (decide (258 < ((s.length : Nat) : Int))) (.c Aw5 Sw5 (()) fun r59 => (.r r59)) (.g .k7)))))
noncomputable def Ez3J (s : List (Bool)) (t : Sk) (u : Sk) := Tr.lp (Tz3J s t u)
theorem aqE {s : List (Bool)} {t : Sk} {u : Sk} {n : Nat} {l_ : Lz3} : Ez3J s t u (n + 1) l_ = (Tz3J s t u l_).d (Ez3J s t u n) := rfl
noncomputable def Ez3 (n : Nat) (s : List (Bool)) (t : Sk) (u : Sk) := (Tz3 s t u).d (Ez3J s t u n)
noncomputable def Sz3 (x : (List (Bool)) × Sk × Sk × Unit) := Ez3 (x.1.length + 64) x.1 x.2.1 x.2.2.1
noncomputable def wz3 : Wk ((List (Bool)) × Sk × Sk × Unit) Bool Lz3 cB.v := ⟨fun x => sLz3 x.1 x.2.1 x.2.2.1, uz3, fun x => Tz3 x.1 x.2.1 x.2.2.1, fun x => Tz3J x.1 x.2.1 x.2.2.1⟩
noncomputable def Kz3 := sZ 3 Tryz.func3 [Kw5, Kz6, Kz7, Kz8, Kz9, Kz10, Kz11, Kz12] noZ ⟨93, noL, (lookA [(3, ⟨[0, 4, 5], [0, 1], 2, [], [], []⟩), (10, ⟨[4, 5, 7, 8, 9, 10, 11, 12, 13], [0, 1, 4, 5, 6, 7], 8, [], [], []⟩), (15, ⟨[4, 7, 8, 9, 10, 11, 12, 13, 14], [0, 4, 5, 6, 7], 8, [], [], []⟩)]), noL⟩ 64 Az3 cB Sz3 wz3 (fun x => x.1.length + 64)
end
end Go.Ev
