import GoSem.Step
set_option linter.unusedSimpArgs false
set_option linter.unusedVariables false
namespace Go.Ev
noncomputable section

/-! Binary tries keyed by numbers. -/
inductive T (α : Type) where
  | nil
  | node (v : Option α) (l r : T α)

namespace T
variable {α : Type}
--DEBUG-BEGIN
def get (t : T α) : Nat → Option α :=
  T.rec (motive := fun _ => Nat → Option α) (fun _ => none)
    (fun v _ _ gl gr n => bif Nat.beq n 0 then v else bif Nat.beq (Nat.mod n 2) 1 then gl (Nat.div n 2) else gr (Nat.pred (Nat.div n 2))) t
def set (t : T α) : Nat → Option α → T α :=
  T.rec (motive := fun _ => Nat → Option α → T α) (fun _ _ => .nil)
    (fun v l r gl gr n x => bif Nat.beq n 0 then .node x l r else bif Nat.beq (Nat.mod n 2) 1 then .node v (gl (Nat.div n 2) x) r else .node v l (gr (Nat.pred (Nat.div n 2)) x)) t
--DEBUG-END
def full (x : Option α) : Nat → T α
  | 0 => .nil
  | n + 1 => .node x (full x n) (full x n)
end T

inductive ECap where
  | exact (c : Nat)
  | slack (lo : Nat)
  deriving DecidableEq, Repr

inductive EVal where
  | unk
  | bool (b : Bool)
  | int (k : IntKind) (n : Int)
  | str (l : List Nat)
  | nilp
  | gptr (g off : Nat)
  | ptr (id off : Nat)
  | nilslice
  | slice (id off len : Nat) (cap : ECap)
  | nilmap
  | map (id : Nat)
  | func (f : FuncId) (captured : List EVal)
  | yieldf (id : Nat)
  | nilfunc
  | iface (t : TypeId) (v : EVal)
  | nilif
  | agg (l : List EVal)
  | tup (l : List EVal)
  | lsl (els : List (List EVal))
  | lptr (cells : List EVal) (off : Nat)
  | gsl (id : Nat) (els : List (List EVal))
  deriving Inhabited, Repr

def EVal.cells : EVal → List EVal
  | .agg l => l
  | v => [v]

inductive EObj where
  | row (cells : List EVal) (elem : TypeId) (lo hi : Nat) (slack : Bool)
  | map (es : List (EVal × EVal × Nat)) (clock : Nat)
  | miter (m : Nat) (since : Nat) (seen : List Nat) (stepped : Nat)
  | iter (s : List Nat) (pos : Nat)
  | loop (state : LoopState) (pending : Option Code) (sz : Nat) (tmps : T EVal) (params : List Tmp) (assign body : Code) (defers : Nat)
  | deferred (taken : Bool)

structure H where
  n : Nat
  t : T EObj
  m : Nat
  k : T (Nat × TypeId)

def H.start : H := ⟨0, T.full none 14, 0, T.full none 8⟩
def H.new (h : H) (o : EObj) : H := ⟨h.n + 1, h.t.set h.n (some o), h.m, h.k⟩
def H.get (h : H) (id : Nat) : Option EObj := h.t.get id
def H.put (h : H) (id : Nat) (o : EObj) : H := ⟨h.n, h.t.set id (some o), h.m, h.k⟩
def H.kill (h : H) (id : Nat) : H := ⟨h.n, h.t.set id none, h.m, h.k⟩
def H.tok (h : H) (id n : Nat) (e : TypeId) : H := ⟨h.n, h.t, h.m, h.k.set id (some (n, e))⟩

abbrev G := Nat → Option (List EVal)

/-- calls that are known: of flat arguments, with a flat result, that turn no memory -/
abbrev Known := FuncId → List EVal → Option EVal

def absCells (f : Value → Option EVal) : List Value → Option (List EVal)
  | [] => some []
  | v :: l => match f v, absCells f l with
    | some e, some es => some (e :: es)
    | _, _ => none

def absCell : Value → Option EVal
  | .bool b => some (.bool b)
  | .int k n => some (.int k n)
  | .string s => some (.str (s.data.toList.map UInt8.toNat))
  | .pointer none => some .nilp
  | .pointer (some ⟨g, o, none⟩) => some (.gptr g o)
  | .slice none 0 0 => some .nilslice
  | .map none => some .nilmap
  | .nilFunc => some .nilfunc
  | .nilIface => some .nilif
  | .func (.func f) first captured => if first.size = 0 ∧ captured.size = 0 then some (.func f []) else none
  | _ => none

def absV : Value → Option EVal
  | .agg cs => match absCells absCell cs.toList with
    | some l => some (.agg l)
    | none => none
  | .tuple cs => match absCells absCell cs.toList with
    | some l => some (.tup l)
    | none => none
  | v => absCell v

def ev (t : T EVal) : Operand → Option EVal
  | .tmp i => t.get i
  | .const v => absV v
  | .global g => some (.gptr g 0)
  | .func f => some (.func f [])

def evs (t : T EVal) : List Operand → Option (List EVal)
  | [] => some []
  | x :: l => match ev t x, evs t l with
    | some e, some es => some (e :: es)
    | _, _ => none

def setRange (cs : List EVal) (o : Nat) (vs : List EVal) : List EVal := cs.take o ++ vs ++ cs.drop (o + vs.length)

def EVal.one : EVal → Bool
  | .agg _ => false
  | .tup _ => false
  | _ => true

def allOne : List EVal → Bool
  | [] => true
  | v :: l => v.one && allOne l

variable (P : Program) (g : G) (K : Known)

def row? (h : H) : EVal → Option (List EVal × Nat)
  | .gptr b o => match g b with
    | some cs => some (cs, o)
    | none => none
  | .ptr id o => match h.get id with
    | some (.row cs _ _ _ _) => some (cs, o)
    | _ => none
  | .lptr cs o => some (cs, o)
  | _ => none

def takeN (cs : List EVal) (o n : Nat) : Option (List EVal) :=
  let r := (cs.drop o).take n
  if r.length = n then some r else none

def aggT (t : TypeId) : Option Bool := match P.underlying t with
  | some (.struct _) => some true
  | some (.array _ _) => some true
  | some _ => some false
  | none => none

def eLoad' (t : TypeId) (cs : List EVal) (o : Nat) : Option Bool → Option EVal
  | some true => match P.info? t with
    | some i => match takeN cs o i.size with
      | some r => some (.agg r)
      | none => none
    | none => none
  | some false => cs[o]?
  | none => none

def eLoad (h : H) (t : TypeId) (a : EVal) : Option EVal :=
  match row? g h a with
  | some (cs, o) => eLoad' P t cs o (aggT P t)
  | none => none

def eStoreCells (h : H) (id o : Nat) (vs : List EVal) : Option H :=
  match h.get id with
  | some (.row cs e lo hi sl) =>
    if o + vs.length ≤ cs.length ∧ hi ≤ o ∧ allOne vs = true then some (h.put id (.row (setRange cs o vs) e lo hi sl)) else none
  | _ => none

def eStore (h : H) (t : TypeId) (a v : EVal) : Option H :=
  match P.info? t with
  | some i => match a with
    | .ptr id o => if v.cells.length = i.size then eStoreCells h id o v.cells else none
    | _ => none
  | none => none

def sizeT (t : TypeId) : Option Nat := (P.info? t).map (·.size)

def fillE (place : Nat → Option (Nat × Nat)) (cells : List EVal) : List (Nat × EVal) → Option (List EVal)
  | [] => some cells
  | (i, v) :: rest =>
    match place i with
    | none => none
    | some (off, size) => if v.cells.length ≠ size ∨ off + v.cells.length > cells.length then none else fillE place (setRange cells off v.cells) rest

def zeroE (t : TypeId) : Option (List EVal) :=
  match P.info? t with
  | some i => match i.zero with
    | some z => match absV z with
      | some e => some e.cells
      | none => none
    | none => none
  | none => none

def repl (z : List EVal) : Nat → List EVal
  | 0 => []
  | n + 1 => z ++ repl z n

def evParts (t : T EVal) : List (Nat × Operand) → Option (List (Nat × EVal))
  | [] => some []
  | (i, x) :: l => match ev t x, evParts t l with
    | some e, some es => some ((i, e) :: es)
    | _, _ => none

def eqKey : EVal → EVal → Option Bool
  | .bool a, .bool b => some (a == b)
  | .int k a, .int k' b => if k = k' then some (a == b) else none
  | .str a, .str b => some (decide (a = b))
  | _, _ => none

def eqNil : EVal → EVal → Option Bool
  | .ptr i o, .ptr j q => if i = j ∧ o = q then some true else none
  | .nilp, .nilp => some true
  | .nilp, .ptr _ _ => some false
  | .ptr _ _, .nilp => some false
  | .nilp, .gptr _ _ => some false
  | .gptr _ _, .nilp => some false
  | _, _ => none

def eqNilS : EVal → EVal → Option Bool
  | .nilslice, .nilslice => some true
  | .slice _ _ _ _, .nilslice => some false
  | .nilslice, .slice _ _ _ _ => some false
  | .lsl (_ :: _), .nilslice => some false
  | .gsl _ (_ :: _), .nilslice => some false
  | _, _ => none

def eqNilM : EVal → EVal → Option Bool
  | .nilmap, .nilmap => some true
  | .map _, .nilmap => some false
  | .nilmap, .map _ => some false
  | _, _ => none

def eqNilF : EVal → EVal → Option Bool
  | .nilfunc, .nilfunc => some true
  | .func _ _, .nilfunc => some false
  | .nilfunc, .func _ _ => some false
  | _, _ => none

def lessL : List Nat → List Nat → Bool
  | _, [] => false
  | [], _ :: _ => true
  | a :: x, b :: y => a < b || (a == b && lessL x y)

def eInt (op : BinOp) (k : IntKind) (a b : Int) : Option EVal :=
  match op with
  | .add => some (.int k (k.wrap (a + b)))
  | .sub => some (.int k (k.wrap (a - b)))
  | .mul => some (.int k (k.wrap (a * b)))
  | .quo => if b = 0 then none else some (.int k (k.wrap (a.tdiv b)))
  | .rem => if b = 0 then none else some (.int k (a.tmod b))
  | .and => some (.int k (k.wrap (BitVec.ofInt k.bits a &&& BitVec.ofInt k.bits b).toNat))
  | .or => some (.int k (k.wrap (BitVec.ofInt k.bits a ||| BitVec.ofInt k.bits b).toNat))
  | .xor => some (.int k (k.wrap (BitVec.ofInt k.bits a ^^^ BitVec.ofInt k.bits b).toNat))
  | .andNot => some (.int k (k.wrap (BitVec.ofInt k.bits a &&& ~~~ (BitVec.ofInt k.bits b)).toNat))
  | .eql => some (.bool (a == b))
  | .neq => some (.bool (a != b))
  | .lss => some (.bool (a < b))
  | .leq => some (.bool (a ≤ b))
  | .gtr => some (.bool (a > b))
  | .geq => some (.bool (a ≥ b))
  | _ => none

def eStr (op : BinOp) (a b : List Nat) : Option EVal :=
  match op with
  | .add => if a.length + b.length < 1000000000 then some (.str (a ++ b)) else none
  | .eql => some (.bool (decide (a = b)))
  | .neq => some (.bool (!decide (a = b)))
  | .lss => some (.bool (lessL a b))
  | .leq => some (.bool (lessL a b || decide (a = b)))
  | .gtr => some (.bool (!(lessL a b || decide (a = b))))
  | .geq => some (.bool (!lessL a b))
  | _ => none

def eShl (k : IntKind) (a b : Int) : Option EVal := if b < 0 then none else some (.int k (k.wrap (a * 2 ^ (min b.toNat k.bits))))
def eShr (k : IntKind) (a b : Int) : Option EVal := if b < 0 then none else some (.int k (a.fdiv (2 ^ (min b.toNat k.bits))))

def eInt2 (op : BinOp) (k k' : IntKind) (a b : Int) : Option EVal :=
  match op with
  | .shl => eShl k a b
  | .shr => eShr k a b
  | op => if k = k' then eInt op k a b else none

def eqIntE : EVal → EVal → Option Bool
  | .int k a, .int k' b => if k = k' then some (a == b) else none
  | _, _ => none

def eqStrE : EVal → EVal → Option Bool
  | .str a, .str b => some (decide (a = b))
  | _, _ => none

def eqBoolE : EVal → EVal → Option Bool
  | .bool a, .bool b => some (a == b)
  | _, _ => none

def eqBasic (t : TypeId) (a b : EVal) : Option Bool :=
  match P.underlying t with
  | some (.int _) => eqIntE a b
  | some .string => eqStrE a b
  | some .bool => eqBoolE a b
  | _ => none

def eqFieldsE : List Field → List EVal → List EVal → Option Bool
  | [], _, _ => some true
  | f :: fs, xs, ys =>
    if f.name = "_" then none else
    match xs[f.offset]?, ys[f.offset]? with
    | some a, some b => match eqBasic P f.type a b with
      | some true => eqFieldsE fs xs ys
      | some false => some false
      | none => none
    | _, _ => none

def eqItemsE (e : TypeId) : List EVal → List EVal → Option Bool
  | [], [] => some true
  | a :: l, b :: m => match eqBasic P e a b with
    | some true => eqItemsE e l m
    | some false => some false
    | none => none
  | _, _ => none

def eqAgg (t : TypeId) (xs ys : List EVal) : Option Bool :=
  match P.eqGuardType P.depth t with
  | true => none
  | false => match P.underlying t with
    | some (.struct fs) => match P.stoodInHeld t with
      | true => none
      | false => eqFieldsE P fs.toList xs ys
    | some (.array n e) => match sizeT P e with
      | some 1 => if xs.length = n ∧ ys.length = n then eqItemsE P e xs ys else none
      | _ => none
    | _ => none

def eqX (t : TypeId) (a b : EVal) : Option Bool :=
  match P.underlying t with
  | some .bool => eqBoolE a b
  | some (.pointer e) => if (sizeT P e).isSome = true then eqNil a b else none
  | some (.slice _) => eqNilS a b
  | some (.map _ _) => eqNilM a b
  | some (.func _ _ _) => eqNilF a b
  | some _ => match a, b with
    | .agg xs, .agg ys => eqAgg P t xs ys
    | _, _ => none
  | none => none

def eOther (op : BinOp) (t : TypeId) (a b : EVal) : Option EVal :=
  match op with
  | .eql => (eqX P t a b).map .bool
  | .neq => (eqX P t a b).map (.bool !·)
  | _ => none

def eBin (op : BinOp) (t : TypeId) (x y : EVal) : Option EVal :=
  match x with
  | .int k a => match y with
    | .int k' b => eInt2 op k k' a b
    | _ => none
  | .str a => match y with
    | .str b => eStr op a b
    | _ => none
  | x => eOther P op t x y

def eUn (op : UnOp) (x : EVal) : Option EVal :=
  match op, x with
  | .neg, .int k n => some (.int k (k.wrap (0 - n)))
  | .not, .bool b => some (.bool !b)
  | _, _ => none

/-- the bytes of a rune -/
def runeE (n : Int) : List Nat := (Utf8.encode n).data.toList.map UInt8.toNat

def eConvert (h : H) (src dst : TypeId) (x : EVal) : Option EVal :=
  match P.underlying src, P.underlying dst, x with
  | some _, some (.int k), .int _ n => some (.int k (k.wrap n))
  | some _, some .string, .int _ n => some (.str (runeE n))
  | some _, some .string, .str l => some (.str l)
  | some (.pointer t), some .unsafePointer, .ptr id o => match h.get id with
    | some (.row cs _ _ _ _) => if o < cs.length ∧ (sizeT P t).getD 0 ≠ 0 then some (.ptr id o) else none
    | _ => none
  | some .unsafePointer, some (.pointer u), .ptr id o => match h.get id with
    | some (.row cs e _ _ false) => if (sizeT P u).getD 0 ≠ 0 ∧ liesAt P P.depth e (cs.length / P.cellsOf e) o u 1 = true then some (.ptr id o) else none
    | _ => none
  | _, _, _ => none

def bound (x : Option EVal) (dflt top : Nat) : Option Nat :=
  match x with
  | none => some dflt
  | some (.int _ i) => if 0 ≤ i ∧ i ≤ top then some i.toNat else none
  | _ => none

def evOpt (t : T EVal) : Option Operand → Option (Option EVal)
  | none => some none
  | some x => match ev t x with
    | some e => some (some e)
    | none => none

def lensOK (sz : Nat) (els : List (List EVal)) : Bool := els.all fun c => c.length == sz

def eSliceL (e : TypeId) (els : List (List EVal)) (lo hi : Option EVal) : Option EVal :=
  match bound hi els.length els.length, sizeT P e with
  | some b, some sz => match bound lo 0 b with
    | some a => if lensOK sz els = true then some (.lsl ((els.take b).drop a)) else none
    | none => none
  | _, _ => none

def eSlice (t : TypeId) (x : EVal) (lo hi : Option EVal) : Option EVal :=
  match P.underlying t, x with
  | some .string, .str s =>
    match bound hi s.length s.length with
    | some b => match bound lo 0 b with
      | some a => some (.str ((s.take b).drop a))
      | none => none
    | none => none
  | some (.slice e), .nilslice =>
    match bound hi 0 0, sizeT P e with
    | some b, some _ => match bound lo 0 b with
      | some _ => some .nilslice
      | none => none
    | _, _ => none
  | some (.slice e), .slice id off len (.exact c) =>
    match bound hi len c, sizeT P e with
    | some b, some sz => match bound lo 0 b with
      | some a => some (.slice id (if c = a then off else off + a * sz) (b - a) (.exact (c - a)))
      | none => none
    | _, _ => none
  | some (.slice e), .slice id off len (.slack s) =>
    match bound hi len len, sizeT P e with
    | some b, some sz => match bound lo 0 b with
      | some a => if a = 0 ∨ a < len then some (.slice id (off + a * sz) (b - a) (.slack (s + a))) else none
      | none => none
    | _, _ => none
  | some (.slice e), .lsl els => eSliceL P e els lo hi
  | some (.slice e), .gsl _ els => eSliceL P e els lo hi
  | some (.array n e), .ptr id off =>
    match bound hi n n, sizeT P e with
    | some b, some sz => match bound lo 0 b with
      | some a => some (.slice id (if n = a then off else off + a * sz) (b - a) (.exact (n - a)))
      | none => none
    | _, _ => none
  | _, _ => none

def eShift (k : Nat) : EVal → Option EVal
  | .ptr id o => some (.ptr id (o + k))
  | .gptr b o => some (.gptr b (o + k))
  | .lptr cs o => some (.lptr cs (o + k))
  | _ => none

def eFieldAddr (s : TypeId) (x : EVal) (f : Nat) : Option EVal :=
  match P.underlying s with
  | some (.struct fs) => match fs[f]? with
    | some fd => match sizeT P fd.type with
      | some sz => if sz = 0 then none else eShift fd.offset x
      | none => none
    | none => none
  | _ => none

def ePart (t : TypeId) (cs : List EVal) (off : Nat) : Option EVal := eLoad' P t cs off (aggT P t)

def eField (s : TypeId) (x : EVal) (f : Nat) : Option EVal :=
  match P.underlying s, x with
  | some (.struct fs), .agg cs => match fs[f]? with
    | some fd => ePart P fd.type cs fd.offset
    | none => none
  | _, _ => none

def eIndexAddr' (e : TypeId) (n : Nat) (i : Int) (base : EVal) : Option EVal :=
  match sizeT P e with
  | some sz => if 0 ≤ i ∧ i < n then eShift (i.toNat * sz) base else none
  | none => none

def eIndexL (e : TypeId) (els : List (List EVal)) (i : Int) : Option EVal :=
  if 0 ≤ i then match els[i.toNat]? with
    | some cs => if sizeT P e = some cs.length then some (.lptr cs 0) else none
    | none => none
  else none

def eIndexAddr (t : TypeId) (x ix : EVal) : Option EVal :=
  match ix with
  | .int _ i => match P.underlying t with
    | some (.array n e) => eIndexAddr' P e n i x
    | some (.slice e) => match x with
      | .slice id o len _ => eIndexAddr' P e len i (.ptr id o)
      | .lsl els => eIndexL P e els i
      | .gsl _ els => eIndexL P e els i
      | _ => none
    | _ => none
  | _ => none

def eIndex (t : TypeId) (x ix : EVal) : Option EVal :=
  match ix with
  | .int _ i => match P.underlying t with
    | some (.array n e) => match x with
      | .agg cs => match sizeT P e with
        | some sz => if 0 ≤ i ∧ i < n then ePart P e cs (i.toNat * sz) else none
        | none => none
      | _ => none
    | some .string => match x with
      | .str s => if 0 ≤ i then match s[i.toNat]? with
        | some b => some (.int .u8 b)
        | none => none
        else none
      | _ => none
    | _ => none
  | _ => none

def findE (k : EVal) : List (EVal × EVal × Nat) → Option (Option EVal)
  | [] => some none
  | (a, b, _) :: l => match eqKey k a with
    | some true => some (some b)
    | some false => findE k l
    | none => none

def keyFits (d : Option TypeDesc) (k : EVal) : Bool :=
  match d with
  | some (.int j) => match k with
    | .int j' _ => decide (j' = j)
    | _ => false
  | some .string => match k with
    | .str _ => true
    | _ => false
  | some .bool => match k with
    | .bool _ => true
    | _ => false
  | _ => false

def zeroV (t : TypeId) : Option EVal :=
  match P.info? t with
  | some i => match i.zero with
    | some z => absV z
    | none => none
  | none => none

def eLookup' (ok : Bool) (e : TypeId) : Option (Option EVal) → Option EVal
  | some (some v) => some (if ok then .tup [v, .bool true] else v)
  | some none => match zeroV P e with
    | some v => some (if ok then .tup [v, .bool false] else v)
    | none => none
  | none => none

def eLookup (h : H) (t : TypeId) (x ix : EVal) (ok : Bool) : Option EVal :=
  match P.underlying t with
  | some (.map kt e) => if keyFits (P.underlying kt) ix = true then
      match x with
      | .nilmap => eLookup' P ok e (some none)
      | .map id => match h.get id with
        | some (.map es _) => eLookup' P ok e (findE ix es)
        | _ => none
      | _ => none
    else none
  | _ => none

def updE (k v : EVal) : List (EVal × EVal × Nat) → Option (Option (List (EVal × EVal × Nat)))
  | [] => some none
  | (a, b, t) :: l => match eqKey k a with
    | some true => some (some ((a, v, t) :: l))
    | some false => match updE k v l with
      | some (some m) => some (some ((a, b, t) :: m))
      | some none => some none
      | none => none
    | none => none

def eUpdate' (h : H) (id : Nat) (es : List (EVal × EVal × Nat)) (c : Nat) (k v : EVal) : Option (Option (List (EVal × EVal × Nat))) → Option H
  | some (some m) => some (h.put id (.map m c))
  | some none => some (h.put id (.map (es ++ [(k, v, c)]) (c + 1)))
  | none => none

def eUpdate (h : H) (t : TypeId) (x k v : EVal) : Option H :=
  match P.underlying t with
  | some (.map kt _) => if keyFits (P.underlying kt) k = true then
      match x with
      | .map id => match h.get id with
        | some (.map es c) => eUpdate' h id es c k v (updE k v es)
        | _ => none
      | _ => none
    else none
  | _ => none

def bytesOfE (l : List Nat) : List EVal := l.map fun b => .int .u8 (Int.ofNat b)

/-- a value as it is kept for good -/
def keep1 : EVal → Option EVal
  | .gsl _ els => some (.lsl els)
  | .lsl els => some (.lsl els)
  | .lptr cs o => some (.lptr cs o)
  | .bool b => some (.bool b)
  | .int k n => some (.int k n)
  | .str l => some (.str l)
  | .nilp => some .nilp
  | .gptr a b => some (.gptr a b)
  | .nilslice => some (.lsl [])
  | .nilmap => some .nilmap
  | .nilfunc => some .nilfunc
  | .nilif => some .nilif
  | .func f [] => some (.func f [])
  | _ => none

def keepL : List EVal → Option (List EVal)
  | [] => some []
  | v :: l => match keep1 v, keepL l with
    | some a, some b => some (a :: b)
    | _, _ => none

def keepA : EVal → Option EVal
  | .agg l => (keepL l).map .agg
  | v => keep1 v

def keepT : List EVal → Option (List EVal)
  | [] => some []
  | v :: l => match keepA v, keepT l with
    | some a, some b => some (a :: b)
    | _, _ => none

def keepV : EVal → Option EVal
  | .agg l => (keepL l).map .agg
  | .tup l => (keepT l).map .tup
  | v => keep1 v

/-- the cells of n elements -/
def chunk (sz : Nat) : Nat → List EVal → List (List EVal)
  | 0, _ => []
  | n + 1, l => l.take sz :: chunk sz n (l.drop sz)

def srcCells (h : H) (sz : Nat) : EVal → Option (List EVal × Nat)
  | .nilslice => some ([], 0)
  | .slice id off len _ => match h.get id with
    | some (.row cs _ _ _ _) => match takeN cs off (len * sz) with
      | some r => some (r, len)
      | none => none
    | _ => none
  | .str l => if sz = 1 then some (bytesOfE l, l.length) else none
  | .lsl els => if lensOK sz els = true then some (els.flatten, els.length) else none
  | .gsl _ els => if lensOK sz els = true then some (els.flatten, els.length) else none
  | _ => none

def growOK (e : TypeId) (sz bytes need : Nat) : Bool :=
  match zeroE P e with
  | some z => z.length == sz && Nat.ble 1 bytes && Nat.ble (bytes * need) 1000000
  | none => false

/-- append: a new row -/
def eGrow (h : H) (e : TypeId) (sz bytes : Nat) (old new : List EVal) (need : Nat) : Option (EVal × H) :=
  if growOK P e sz bytes need = true then some (.slice h.n 0 need (.slack 0), h.new (.row (old ++ new) e 0 0 true)) else none

def eAppendX (h : H) (e : TypeId) (sz bytes id off len c : Nat) (new : List EVal) (n : Nat) : Option (EVal × H) :=
  if len + n ≤ c then match eStoreCells h id (off + len * sz) new with
    | some h' => some (.slice id off (len + n) (.exact c), h')
    | none => none
  else match srcCells h sz (.slice id off len (.exact c)) with
    | some old => eGrow P h e sz bytes old.1 new (len + n)
    | none => none

def eAppendS' (h : H) (e : TypeId) (sz bytes id len : Nat) (new : List EVal) (n : Nat) (cs : List EVal) (e' : TypeId) (lo hi : Nat) : Option (EVal × H) :=
  if n = 0 then some (.slice id 0 len (.slack 0), h)
  else if e' = e ∧ sz ≠ 0 ∧ len * sz ≤ cs.length then
    if (len + n) * sz ≤ cs.length then match eStoreCells h id (len * sz) new with
      | some h' => some (.slice id 0 (len + n) (.slack 0), h')
      | none => none
    else if lo = 0 ∧ hi = 0 ∧ growOK P e sz bytes (len + n) = true ∧ allOne new = true then
      some (.slice h.n 0 (len + n) (.slack 0), (h.kill id).new (.row (cs.take (len * sz) ++ new) e 0 0 true))
    else none
  else none

def eAppendS (h : H) (e : TypeId) (sz bytes id len : Nat) (new : List EVal) (n : Nat) : Option (EVal × H) :=
  match h.get id with
  | some (.row cs e' lo hi true) => eAppendS' P h e sz bytes id len new n cs e' lo hi
  | _ => none

/-- append: behind a slice that nobody else appends to -/
def eAppendG (h : H) (e : TypeId) (sz bytes id : Nat) (els : List (List EVal)) (new : List EVal) (n : Nat) : Option (EVal × H) :=
  if n = 0 then some (.gsl id els, h)
  else match h.k.get id with
    | some (m, e') => match keepL new with
      | some new' => if m = els.length ∧ e' = e ∧ new'.length = n * sz ∧ sz ≠ 0 ∧ lensOK sz els = true ∧ growOK P e sz bytes (els.length + n) = true then
          some (.gsl id (els ++ chunk sz n new'), h.tok id (els.length + n) e) else none
      | none => none
    | none => none

/-- append: the elements of x behind s. -/
def eAppend (h : H) (st : TypeId) (s x : EVal) : Option (EVal × H) :=
  match P.underlying st with
  | some (.slice e) =>
    match P.info? e with
    | some i =>
      match srcCells h i.size x with
      | some (new, n) =>
        match s with
        | .nilslice => if n = 0 then some (.nilslice, h) else eGrow P h e i.size i.bytes [] new n
        | .slice id off len (.exact c) => eAppendX P h e i.size i.bytes id off len c new n
        | .slice id 0 len (.slack 0) => eAppendS P h e i.size i.bytes id len new n
        | .gsl id els => eAppendG P h e i.size i.bytes id els new n
        | _ => none
      | none => none
    | none => none
  | _ => none

def eLenM (h : H) (id : Nat) : Option EVal :=
  match h.get id with
  | some (.map es _) => some (.int .i64 es.length)
  | _ => none

def eLen (h : H) (t : TypeId) (x : EVal) : Option EVal :=
  match P.underlying t with
  | some .string => match x with
    | .str l => some (.int .i64 l.length)
    | _ => none
  | some (.array n _) => some (.int .i64 n)
  | some (.pointer a) => match P.underlying a with
    | some (.array n _) => some (.int .i64 n)
    | _ => none
  | some (.slice _) => match x with
    | .slice _ _ n _ => some (.int .i64 n)
    | .nilslice => some (.int .i64 0)
    | .lsl els => some (.int .i64 els.length)
    | .gsl _ els => some (.int .i64 els.length)
    | _ => none
  | some (.map _ _) => match x with
    | .nilmap => some (.int .i64 0)
    | .map id => eLenM h id
    | _ => none
  | _ => none

def eCopy (h : H) (t : TypeId) (d s : EVal) : Option (EVal × H) :=
  match P.underlying t with
  | some (.slice e) =>
    match P.info? e with
    | some i =>
      match d with
      | .nilslice => match srcCells h i.size s with
        | some _ => some (.int .i64 0, h)
        | none => none
      | .slice id off len _ => match srcCells h i.size s with
        | some (src, m) => match eStoreCells h id off (src.take (Nat.min m len * i.size)) with
          | some h' => some (.int .i64 (Nat.min m len), h')
          | none => none
        | none => none
      | _ => none
    | none => none
  | _ => none

def eCap (t : TypeId) (x : EVal) : Option EVal :=
  match P.underlying t with
  | some (.slice _) => match x with
    | .slice _ _ _ (.exact c) => some (.int .i64 c)
    | .nilslice => some (.int .i64 0)
    | _ => none
  | _ => none

def asciiNext (s : List Nat) (pos : Nat) : Option (Nat × Nat) :=
  match s[pos]? with
  | some b => if b < 128 then some (b, 1) else some (Utf8.decode ⟨(s.map UInt8.ofNat).toArray⟩ pos)
  | none => none

def bytesE : List EVal → Option (List Nat)
  | [] => some []
  | .int .u8 b :: l => if 0 ≤ b ∧ b < 256 then match bytesE l with
    | some m => some (b.toNat :: m)
    | none => none
    else none
  | _ => none

def eUnsafeString' (h : H) (e : TypeId) (id : Nat) (n : Nat) : Option (EVal × H) :=
  match h.get id with
  | some (.row cs e' lo hi sl) =>
    if e' = e ∧ lo = 0 ∧ hi ≤ n ∧ sizeT P e = some 1 then
      match takeN cs 0 n with
      | some r => match bytesE r with
        | some l => some (.str l, h.put id (.row cs e' 0 n sl))
        | none => none
      | none => none
    else none
  | _ => none

def eUnsafeString (h : H) (e : TypeId) (p : EVal) (n : Int) : Option (EVal × H) :=
  match p with
  | .nilp => if n = 0 then some (.str [], h) else none
  | .ptr id off => if n = 0 then some (.str [], h) else if 0 < n ∧ n < 1000000 ∧ off = 0 then eUnsafeString' P h e id n.toNat else none
  | _ => none

def eBuiltin (h : H) (b : Builtin) (ts : List TypeId) (args : List EVal) : Option (EVal × H) :=
  match b with
  | .append => match ts, args with
    | t :: t2 :: _, [s, x] => match P.underlying t2 with
      | some (.slice _) => eAppend P h t s x
      | some .string => eAppend P h t s x
      | _ => none
    | _, _ => none
  | .len => match ts, args with
    | t :: _, [x] => (eLen P h t x).map (·, h)
    | _, _ => none
  | .cap => match ts, args with
    | t :: _, [x] => (eCap P t x).map (·, h)
    | _, _ => none
  | .copy => match ts, args with
    | t :: _, [d, s] => eCopy P h t d s
    | _, _ => none
  | .max => match args with
    | [.int k a, .int _ c] => some (.int k (if c > a then c else a), h)
    | _ => none
  | .min => match args with
    | [.int k a, .int _ c] => some (.int k (if c < a then c else a), h)
    | _ => none
  | .unsafeSliceData => match args with
    | [.nilslice] => some (.nilp, h)
    | [.slice id off len c] => if len = 0 ∨ c = .exact 0 then none else some (.ptr id off, h)
    | _ => none
  | .unsafeString => match ts, args with
    | [t, _], [p, .int .i64 n] => match P.underlying t with
      | some (.pointer e) => eUnsafeString P h e p n
      | _ => none
    | _, _ => none
  | _ => none

inductive EExit where
  | normal
  | exit (id : Nat)
  | ret

structure EFr where
  sz : Nat
  tmps : T EVal
  defers : List Nat
  round : Option Nat

def EFr.putd (fr : EFr) (d : Option Tmp) (v : EVal) : EFr :=
  match d with
  | some i => bif Nat.blt i fr.sz then ⟨fr.sz, fr.tmps.set i (some v), fr.defers, fr.round⟩ else fr
  | none => fr

def undefE : EVal := .tup []

def initA : List EVal → Nat → T EVal → T EVal
  | [], _, t => t
  | v :: l, i, t => initA l (i + 1) (t.set i (some v))

def yieldedE (ops : Array Oper) (t : T EVal) (j : Nat) : Option (Option Bool) :=
  match ops[j]? with
  | some o => match o.dst with
    | some d => match t.get d with
      | some (.bool b) => some (some b)
      | some .unk => none
      | some _ => some none
      | none => none
    | none => some none
  | none => some none

def wantedE (ops : Array Oper) (t : T EVal) (o : Oper) : Option Bool :=
  match o.guard with
  | none => some true
  | some (j, want) => match yieldedE ops t j with
    | some y => some (y == some want)
    | none => none

/-- what an operation comes to that calls nothing -/
inductive EOut where
  | val (v : EVal) (h : H)
  | enter (f : FuncId) (args : List EVal) (h : H)
  | yield (id : Nat) (args : List EVal) (h : H)

def mk (x : Option EVal) (h : H) : Option EOut := x.map (.val · h)

def indexByteE (l : List Nat) (c : Nat) (i : Nat) : Int :=
  match l with
  | [] => -1
  | b :: l => if b = c then i else indexByteE l c (i + 1)

def eNoZero (fn : Func) (h : H) : List EVal → Option EOut
  | [.int .i64 n] => match fn.resultTypes[0]? with
    | some t => match P.underlying t with
      | some (.slice e) => if 0 ≤ n ∧ n < 1000000 ∧ sizeT P e = some 1 then some (.val (.slice h.n 0 n.toNat (.slack 0)) (h.new (.row (repl [.unk] n.toNat) e 0 0 true))) else none
      | _ => none
    | none => none
  | _ => none

def eIndexByte (h : H) : List EVal → Option EOut
  | [.str l, .int .u8 c] => if 0 ≤ c ∧ c < 256 then some (.val (.int .i64 (indexByteE l c.toNat 0)) h) else none
  | _ => none

def eNoEscape (h : H) : List EVal → Option EOut
  | [x] => some (.val x h)
  | _ => none

def eExtern (fn : Func) (args : List EVal) (h : H) : Option EOut :=
  if fn.origin = "" then
    if fn.name = "internal/bytealg.IndexByteString" then eIndexByte h args
    else if fn.name = "internal/abi.NoEscape" then eNoEscape h args
    else if fn.name = "internal/bytealg.MakeNoZero" then eNoZero P fn h args
    else none
  else none

def eAlloc (h : H) (e : TypeId) : Option EOut :=
  match zeroE P e with
  | some z => some (.val (.ptr h.n 0) (h.new (.row z e 0 0 false)))
  | none => none

def eBox (h : H) (e : TypeId) : Option EVal → Option EOut
  | some v => some (.val (.ptr h.n 0) (h.new (.row v.cells e 0 0 false)))
  | none => none

def placeS (fs : Array Field) (i : Nat) : Option (Nat × Nat) :=
  match fs[i]? with
  | some f => match sizeT P f.type with
    | some s => some (f.offset, s)
    | none => none
  | none => none

def fieldsOK (fs : Array Field) : Bool := fs.toList.all fun f => (P.info? f.type).isSome

def eBuildS (h : H) (z : List EVal) (ps : List (Nat × EVal)) (fs : Array Field) : Option EOut :=
  match fillE (placeS P fs) z ps with
  | some cs => if fieldsOK P fs = true then some (.val (.agg cs) h) else none
  | none => none

def eBuildA (h : H) (z : List EVal) (ps : List (Nat × EVal)) (e : TypeId) : Option EOut :=
  match sizeT P e with
  | some sz => match fillE (fun i => some (i * sz, sz)) z ps with
    | some cs => some (.val (.agg cs) h)
    | none => none
  | none => none

def eBuild (h : H) (ty : TypeId) (parts : Option (List (Nat × EVal))) : Option EOut :=
  match zeroE P ty, parts, P.underlying ty with
  | some z, some ps, some (.struct fs) => eBuildS P h z ps fs
  | some z, some ps, some (.array _ e) => eBuildA P h z ps e
  | _, _, _ => none

def eBuildSlice' (h : H) (e : TypeId) (len sz : Nat) (z : List EVal) (ps : List (Nat × EVal)) : Option EOut :=
  if len * sz ≤ 1000 ∧ z.length = sz then match fillE (fun i => some (i * sz, sz)) (repl z len) ps with
    | some cs => some (.val (.slice h.n 0 len (.exact len)) (h.new (.row cs e 0 0 false)))
    | none => none
  else none

def eBuildSlice (h : H) (ty : TypeId) (len : Nat) (parts : Option (List (Nat × EVal))) : Option EOut :=
  match P.underlying ty, parts with
  | some (.slice e), some ps => match sizeT P e, zeroE P e with
    | some sz, some z => eBuildSlice' h e len sz z ps
    | _, _ => none
  | _, _ => none

def eLoadOp (h : H) (ty : TypeId) : Option EVal → Option EOut
  | some x => mk (eLoad P g h ty x) h
  | none => none

def eStoreOp (h : H) (ty : TypeId) : Option EVal → Option EVal → Option EOut
  | some p, some v => match eStore P h ty p v with
    | some h' => some (.val undefE h')
    | none => none
  | _, _ => none

def eNil (h : H) : Option EVal → Option EOut
  | some (.ptr i o) => some (.val (.ptr i o) h)
  | some (.gptr i o) => some (.val (.gptr i o) h)
  | some (.lptr i o) => some (.val (.lptr i o) h)
  | some (.func f c) => some (.val (.func f c) h)
  | _ => none

def ePick (h : H) (a b : Option EVal) : Option EVal → Option EOut
  | some (.bool true) => mk a h
  | some (.bool false) => mk b h
  | _ => none

def eBinOp (h : H) (op : BinOp) (ty : TypeId) : Option EVal → Option EVal → Option EOut
  | some a, some b => mk (eBin P op ty a b) h
  | _, _ => none

def eUnOp (h : H) (op : UnOp) : Option EVal → Option EOut
  | some a => mk (eUn op a) h
  | none => none

def eConvOp (h : H) (s d : TypeId) : Option EVal → Option EOut
  | some a => mk (eConvert P h s d a) h
  | none => none

def eMakeFunc (h : H) (f : FuncId) (first : Array Operand) : Option (List EVal) → Option EOut
  | some cs => if first.size = 0 then some (.val (.func f cs) h) else none
  | none => none

def eMakeSlice' (h : H) (e : TypeId) (a b : Int) : Option EOut :=
  match sizeT P e, zeroE P e with
  | some sz, some z => if 0 ≤ a ∧ a ≤ b ∧ b < 100000 ∧ P.bytesOf e < 1000 ∧ z.length = sz then some (.val (.slice h.n 0 a.toNat (.exact b.toNat)) (h.new (.row (repl z b.toNat) e 0 0 false))) else none
  | _, _ => none

def eMakeSlice (h : H) (ty : TypeId) : Option EVal → Option EVal → Option EOut
  | some (.int _ a), some (.int _ b) => match P.underlying ty with
    | some (.slice e) => eMakeSlice' P h e a b
    | _ => none
  | _, _ => none

def eSliceOp (h : H) (ty : TypeId) (a : Option EVal) (lo hi : Option (Option EVal)) : Option EOut :=
  match a, lo, hi with
  | some a, some l, some r => mk (eSlice P ty a l r) h
  | _, _, _ => none

def eFieldAddrOp (h : H) (s : TypeId) (f : Nat) : Option EVal → Option EOut
  | some a => mk (eFieldAddr P s a f) h
  | none => none

def eFieldOp (h : H) (s : TypeId) (f : Nat) : Option EVal → Option EOut
  | some a => mk (eField P s a f) h
  | none => none

def eIndexAddrOp (h : H) (ty : TypeId) : Option EVal → Option EVal → Option EOut
  | some a, some b => mk (eIndexAddr P ty a b) h
  | _, _ => none

def eIndexOp (h : H) (ty : TypeId) : Option EVal → Option EVal → Option EOut
  | some a, some b => mk (eIndex P ty a b) h
  | _, _ => none

def eLookupOp (h : H) (ty : TypeId) (ok : Bool) : Option EVal → Option EVal → Option EOut
  | some a, some b => mk (eLookup P h ty a b ok) h
  | _, _ => none

def eUpdateOp (h : H) (t : TypeId) : Option EVal → Option EVal → Option EVal → Option EOut
  | some a, some b, some c => match eUpdate P h t a b c with
    | some h' => some (.val undefE h')
    | none => none
  | _, _, _ => none

def eRangeMap (h : H) (m : Nat) : Option EOut :=
  match h.get m with
  | some (.map _ c) => some (.val (.ptr h.n 0) (h.new (.miter m c [] c)))
  | _ => none

def eRange (h : H) (ty : TypeId) : Option EVal → Option EOut
  | some (.str l) => match P.underlying ty with
    | some .string => some (.val (.ptr h.n 0) (h.new (.iter l 0)))
    | _ => none
  | some (.map m) => match P.underlying ty with
    | some (.map _ _) => eRangeMap h m
    | _ => none
  | _ => none

def eEntry' (h : H) (es : List (EVal × EVal × Nat)) (c stepped b : Nat) : Option EOut :=
  if c = stepped then match es.find? (·.2.2 == b) with
    | some e => some (.val (.tup [e.1, e.2.1]) h)
    | none => none
  else none

def eEntry (h : H) : Option EVal → Option EOut
  | some (.ptr id 0) => match h.get id with
    | some (.miter m _ seen stepped) => match h.get m, seen.getLast? with
      | some (.map es c), some b => eEntry' h es c stepped b
      | _, _ => none
    | _ => none
  | _ => none

def eNextS' (h : H) (id : Nat) (l : List Nat) (pos : Nat) : Option EOut :=
  if pos < l.length then match asciiNext l pos with
    | some (c, w) => some (.val (.tup [.bool true, .int .i64 pos, .int .i32 c]) (h.put id (.iter l (pos + w))))
    | none => none
  else some (.val (.tup [.bool false]) h)

def eNextS (h : H) : Option EVal → Option EOut
  | some (.ptr id 0) => match h.get id with
    | some (.iter l pos) => eNextS' h id l pos
    | _ => none
  | _ => none

def eExtract (h : H) (i : Nat) : Option EVal → Option EOut
  | some (.tup l) => mk l[i]? h
  | _ => none

def eCallF (h : H) (f : FuncId) (args : List EVal) : Option EOut :=
  match P.funcs[f]? with
  | some fn => if fn.body.isNone then eExtern P fn args h else some (.enter f args h)
  | none => none

def eCallV (h : H) (args : List EVal) : Option EVal → Option EOut
  | some (.func f cs) => eCallF P h f (args ++ cs)
  | some (.yieldf id) => some (.yield id args h)
  | _ => none

def eCallB (h : H) (b : Builtin) (ts : Array TypeId) (args : List EVal) : Option EOut :=
  match eBuiltin P h b ts.toList args with
  | some (v, h') => some (.val v h')
  | none => none

def eCall (h : H) (t : T EVal) (c : Callee) (ts : Array TypeId) : Option (List EVal) → Option EOut
  | none => none
  | some args => match c with
    | .builtin b => eCallB P h b ts args
    | .value x => eCallV P h args (ev t x)
    | _ => none

def eOp (h : H) (t : T EVal) (o : Oper) : Option EOut :=
  match o.op with
  | .move x => mk (ev t x) h
  | .assign x => mk (ev t x) h
  | .pick c a b => ePick h (ev t a) (ev t b) (ev t c)
  | .alloc e => eAlloc P h e
  | .box e x => eBox h e (ev t x)
  | .build ty parts => eBuild P h ty (evParts t parts.toList)
  | .buildSlice ty len parts => eBuildSlice P h ty len (evParts t parts.toList)
  | .load ty a => eLoadOp P g h ty (ev t a)
  | .store ty a x => eStoreOp P h ty (ev t a) (ev t x)
  | .nilCheck x => eNil h (ev t x)
  | .binOp op ty x y _ => eBinOp P h op ty (ev t x) (ev t y)
  | .unOp op _ x => eUnOp h op (ev t x)
  | .convert s d x => eConvOp P h s d (ev t x)
  | .makeFunc (.func f) first captured => eMakeFunc h f first (evs t captured.toList)
  | .makeMap _ none => some (.val (.map h.n) (h.new (.map [] 0)))
  | .makeSlice ty l c => eMakeSlice P h ty (ev t l) (ev t c)
  | .slice ty x lo hi none => eSliceOp P h ty (ev t x) (evOpt t lo) (evOpt t hi)
  | .fieldAddr s x f => eFieldAddrOp P h s f (ev t x)
  | .field s x f => eFieldOp P h s f (ev t x)
  | .indexAddr ty x i => eIndexAddrOp P h ty (ev t x) (ev t i)
  | .index ty x i => eIndexOp P h ty (ev t x) (ev t i)
  | .lookup ty x i ok => eLookupOp P h ty ok (ev t x) (ev t i)
  | .mapUpdate ty m k x => eUpdateOp P h ty (ev t m) (ev t k) (ev t x)
  | .range ty x => eRange P h ty (ev t x)
  | .entry x => eEntry h (ev t x)
  | .next it true => eNextS h (ev t it)
  | .extract x i => eExtract h i (ev t x)
  | .call c => eCall P h t c.callee c.argTypes (evs t c.args.toList)
  | _ => none

/-- the steps of a range over a map: one for each candidate -/
def nextMap (h : H) (it : EVal) : Option (List (EVal × H)) :=
  match it with
  | .ptr id 0 => match h.get id with
    | some (.miter m since seen stepped) => match h.get m with
      | some (.map es clock) =>
        if !seen.isEmpty && !es.isEmpty && es.all (fun e => stepped ≤ e.2.2) then none else
        let left := es.filter fun e => !seen.contains e.2.2
        let old := left.filter fun e => e.2.2 < since
        let young := left.filter fun e => since ≤ e.2.2
        some ((if old.isEmpty then [(.tup [.bool false], h)] else []) ++
          (old ++ young).map fun e => (.tup [.bool true, e.1, e.2.1], h.put id (.miter m since (seen ++ [e.2.2]) clock)))
      | _ => none
    | _ => none
  | _ => none

def resultsE (h : H) (t : T EVal) : List ResultVar → Option (List EVal)
  | [] => some []
  | .tmp i :: l => match t.get i, resultsE h t l with
    | some v, some vs => some (v :: vs)
    | _, _ => none
  | .cell i ty :: l => match t.get i, resultsE h t l with
    | some a, some vs => match eLoad P g h ty a with
      | some v => some (v :: vs)
      | none => none
    | _, _ => none

def one : List EVal → EVal
  | [v] => v
  | l => .tup l

def takeAll (h : H) : List Nat → Option H
  | [] => some h
  | id :: l => match h.get id with
    | some (.deferred false) => takeAll (h.put id (.deferred true)) l
    | _ => none

def setParams (n : Nat) (t : T EVal) : List Tmp → List EVal → Option (T EVal)
  | [], [] => some t
  | p :: ps, v :: vs => bif Nat.blt p n then setParams n (t.set p (some v)) ps vs else none
  | _, _ => none

inductive Task where
  | code (c : Code) (fr : EFr) (h : H)
  | ops (all : Array Oper) (l : List Oper) (fr : EFr) (h : H)
  | call (f : FuncId) (args : List EVal) (h : H)
  | round (id : Nat) (args : List EVal) (h : H)
  | again (b : Code) (fr : EFr) (h : H)

inductive Out where
  | code (e : EExit) (fr : EFr) (h : H)
  | val (v : EVal) (h : H)

def bindO : List Out → (Out → Option (List Out)) → Option (List Out)
  | [], _ => some []
  | [x], f => f x
  | x :: l, f => match f x with
    | some a => match bindO l f with
      | some b => some (a ++ b)
      | none => none
    | none => none

def thenO (r : Option (List Out)) (f : Out → Option (List Out)) : Option (List Out) :=
  match r with
  | some l => bindO l f
  | none => none

def thenEach (l : List (EVal × H)) (f : EVal → H → Option (List Out)) : Option (List Out) :=
  match l with
  | [] => some []
  | (v, h) :: l => match f v h with
    | some a => match thenEach l f with
      | some b => some (a ++ b)
      | none => none
    | none => none

abbrev Rec := Task → Option (List Out)

def seqK (r : Rec) (b : Code) : Out → Option (List Out)
  | .code .normal fr h => r (.code b fr h)
  | x => some [x]

def loopK (r : Rec) (b : Code) : Out → Option (List Out)
  | .code .normal fr h => r (.again b fr h)
  | x => some [x]

def blockK (id : Nat) : Out → Option (List Out)
  | .code (.exit i) fr h => if i = id then some [.code .normal fr h] else some [.code (.exit i) fr h]
  | x => some [x]

def condK (r : Rec) (a b : Code) (fr : EFr) (h : H) : Option EVal → Option (List Out)
  | some (.bool true) => r (.code a fr h)
  | some (.bool false) => r (.code b fr h)
  | _ => none

def jumpK (fr : EFr) (h : H) : Option Code → Option (List Out)
  | none => some [.code .normal fr h]
  | some .ret => some [.code .ret fr h]
  | some (.exit id) => some [.code (.exit id) fr h]
  | _ => none

def rangeK (l : Nat) (fr : EFr) : Out → Option (List Out)
  | .val _ h => match h.get l with
    | some (.loop st pend f t p a b d) => if st = .busy then none else jumpK fr (h.put l (.loop .exhausted pend f t p a b d)) pend
    | _ => none
  | _ => none

def enterLoopE (fr : EFr) (h : H) : Option (H × EFr) :=
  match fr.round with
  | none => some (h.new (.deferred false), ⟨fr.sz, fr.tmps, h.n :: fr.defers, none⟩)
  | some id => match h.get id with
    | some (.loop _ _ _ _ _ _ _ _) => some (h, fr)
    | _ => none

def hasBody (f : FuncId) : Bool := match P.funcs[f]? with
  | some fn => fn.body.isSome
  | none => false

def runRange' (r : Rec) (params : Array Tmp) (assign body : Code) (fr : EFr) (k : FuncId) (cs : List EVal) : Option (H × EFr) → Option (List Out)
  | some (h1, fr1) => thenO (r (.call k (.yieldf h1.n :: cs) (h1.new (.loop .ready none fr.sz fr.tmps params.toList assign body 0)))) (rangeK h1.n fr1)
  | none => none

def runRange (r : Rec) (params : Array Tmp) (assign body : Code) (fr : EFr) (h : H) : Option EVal → Option (List Out)
  | some (.func k cs) => if hasBody P k = true then runRange' r params assign body fr k cs (enterLoopE fr h) else none
  | _ => none

/-! a region whose order is open -/
mutual
def EVal.beq : EVal → EVal → Bool
  | .unk, .unk => true
  | .bool a, .bool b => a == b
  | .int k a, .int k' b => decide (k = k') && decide (a = b)
  | .str a, .str b => decide (a = b)
  | .nilp, .nilp => true
  | .gptr a b, .gptr c d => Nat.beq a c && Nat.beq b d
  | .ptr a b, .ptr c d => Nat.beq a c && Nat.beq b d
  | .nilslice, .nilslice => true
  | .slice a b c x, .slice d e f y => Nat.beq a d && Nat.beq b e && Nat.beq c f && decide (x = y)
  | .nilmap, .nilmap => true
  | .map a, .map b => Nat.beq a b
  | .nilfunc, .nilfunc => true
  | .nilif, .nilif => true
  | .func f a, .func f' b => Nat.beq f f' && beqL a b
  | .yieldf a, .yieldf b => Nat.beq a b
  | .iface t a, .iface u b => decide (t = u) && EVal.beq a b
  | .agg a, .agg b => beqL a b
  | .tup a, .tup b => beqL a b
  | .lsl a, .lsl b => beqLL a b
  | .lptr a i, .lptr b j => Nat.beq i j && beqL a b
  | .gsl i a, .gsl j b => Nat.beq i j && beqLL a b
  | _, _ => false
def beqL : List EVal → List EVal → Bool
  | [], [] => true
  | a :: l, b :: m => EVal.beq a b && beqL l m
  | _, _ => false
def beqLL : List (List EVal) → List (List EVal) → Bool
  | [], [] => true
  | a :: l, b :: m => beqL a b && beqLL l m
  | _, _ => false
end

def opTmps : List Operand → List Nat
  | [] => []
  | .tmp i :: l => i :: opTmps l
  | _ :: l => opTmps l

def guardSlot (ops : Array Oper) (o : Oper) : List Nat :=
  match o.guard with
  | some (j, _) => match ops[j]? with
    | some q => match q.dst with
      | some d => [d]
      | none => []
    | none => []
  | none => []

def readsOf (ops : Array Oper) (o : Oper) : List Nat := opTmps o.op.operands.toList ++ guardSlot ops o

--DEBUG-BEGIN
def restr (t : T EVal) (l : List Nat) : T EVal :=
  List.rec (motive := fun _ => T EVal) (T.full none 10) (fun s _ ih => ih.set s (t.get s)) l
--DEBUG-END

def directs (o : Oper) : List Nat := o.after.toList.filterMap fun e => if Region.binds .any e then some e.on else none

/-- the bit i of a number -/
def hasB (m i : Nat) : Bool := !Nat.beq (Nat.land 1 (Nat.shiftRight m i)) 0

--DEBUG-BEGIN
def nthM (A : List Nat) : Nat → Nat :=
  List.rec (motive := fun _ => Nat → Nat) (fun _ => 0) (fun x _ ih i => bif Nat.beq i 0 then x else ih (Nat.pred i)) A

def orAll (A : List Nat) (l : List Nat) : Nat :=
  List.rec (motive := fun _ => Nat) 0 (fun j _ ih => Nat.lor (Nat.lor (Nat.shiftLeft 1 j) (nthM A j)) ih) l

def allLt (i : Nat) (l : List Nat) : Bool :=
  List.rec (motive := fun _ => Bool) true (fun j _ ih => bif Nat.blt j i then ih else false) l

/-- for each operation the set of those that must stand before it -/
def ancGo (l : List Oper) : List Nat → List Nat :=
  List.rec (motive := fun _ => List Nat → List Nat) (fun A => A) (fun o _ ih A => ih (A ++ [orAll A (directs o)])) l

def ancOK (A : List Nat) (l : List Oper) : Nat → Bool :=
  List.rec (motive := fun _ => Nat → Bool) (fun _ => true) (fun o _ ih i => bif Nat.beq (nthM A i) (orAll A (directs o)) then bif allLt i (directs o) then ih (Nat.succ i) else false else false) l

/-- the field of slot s in a table of sets of n operations -/
def fieldT (n t s : Nat) : Nat := Nat.land (Nat.shiftRight t (Nat.mul s n)) (Nat.pred (Nat.shiftLeft 1 n))

def putB (n t s i : Nat) : Nat := Nat.lor t (Nat.shiftLeft 1 (Nat.add (Nat.mul s n) i))

def within (a m : Nat) : Bool := Nat.beq (Nat.land m a) m

def readsIn (n a w : Nat) (l : List Nat) : Bool :=
  List.rec (motive := fun _ => Bool) true (fun s _ ih => bif within a (fieldT n w s) then ih else false) l

def putAll (n i : Nat) (l : List Nat) : Nat → Nat :=
  List.rec (motive := fun _ => Nat → Nat) (fun t => t) (fun s _ ih t => ih (putB n t s i)) l

def dstIn (n a w q : Nat) (d : Option Tmp) : Bool :=
  match d with
  | some s => bif within a (fieldT n w s) then within a (fieldT n q s) else false
  | none => true

def putD (n t i : Nat) (d : Option Tmp) : Nat :=
  match d with
  | some s => putB n t s i
  | none => t

/-- each two operations that touch one slot, one of them writing, are in order -/
def pairsGo (ops : Array Oper) (A : List Nat) (n : Nat) (l : List Oper) : Nat → Nat → Nat → Bool :=
  List.rec (motive := fun _ => Nat → Nat → Nat → Bool) (fun _ _ _ => true)
    (fun o _ ih i w q => bif readsIn n (nthM A i) w (readsOf ops o) then bif dstIn n (nthM A i) w q o.dst then ih (Nat.succ i) (putD n w i o.dst) (putAll n i (readsOf ops o) q) else false else false) l
--DEBUG-END

def staticOK (ops : Array Oper) (A : List Nat) : Bool := bif ancOK A ops.toList 0 then pairsGo ops A ops.toList.length ops.toList 0 0 0 else false

structure DStep where
  o : Oper
  fr : EFr
  v : EVal
  h : H
  act : Option H

/-- operations that make nothing, and look into no memory -/
def isPure (o : Oper) : Bool :=
  match o.op with
  | .move _ => true
  | .assign _ => true
  | .pick _ _ _ => true
  | .slice _ _ _ _ none => true
  | .nilCheck _ => true
  | .binOp _ _ _ _ _ => true
  | .unOp _ _ _ => true
  | .fieldAddr _ _ _ => true
  | .field _ _ _ => true
  | .indexAddr _ _ _ => true
  | .index _ _ _ => true
  | .extract _ _ => true
  | .build _ _ => true
  | _ => false

/-- operations that look into the memory and turn nothing -/
def isQuiet (o : Oper) : Bool :=
  match o.op with
  | .load _ _ => true
  | .lookup _ _ _ _ => true
  | .convert _ _ _ => true
  | .makeFunc (.func _) _ _ => true
  | .call c => match c.callee with
    | .builtin .len => true
    | .builtin .cap => true
    | .builtin .unsafeSliceData => true
    | _ => false
  | _ => false

def restrFr (ops : Array Oper) (o : Oper) (f : EFr) : T EVal := restr f.tmps (readsOf ops o)

def dstOK (o : Oper) (n : Nat) : Bool :=
  match o.dst with
  | some d => Nat.blt d n
  | none => true

/-! calls of plain values, that turn no memory: each is run on its own -/
mutual
def flat : EVal → Bool
  | .unk => true
  | .bool _ => true
  | .int _ _ => true
  | .str _ => true
  | .nilp => true
  | .nilslice => true
  | .nilmap => true
  | .nilfunc => true
  | .nilif => true
  | .agg l => flatL l
  | .tup l => flatL l
  | _ => false
def flatL : List EVal → Bool
  | [] => true
  | x :: l => flat x && flatL l
end

/-- an argument as a known call takes it: what stands for good, or lent -/
def capOK (len : Nat) : ECap → Bool
  | .exact c => decide (len ≤ c)
  | .slack _ => true

def argB (h : H) : EVal → Option EVal
  | .slice id off len cap => match h.get id with
    | some (.row cs e _ _ _) => match sizeT P e with
      | some sz => match takeN cs off (len * sz) with
        | some r => match keepL r with
          | some r' => if capOK len cap = true ∧ sz ≠ 0 then some (.lsl (chunk sz len r')) else none
          | none => none
        | none => none
      | none => none
    | _ => none
  | v => keepV v

def argsB (h : H) : List EVal → Option (List EVal)
  | [] => some []
  | v :: l => match argB P h v, argsB h l with
    | some a, some b => some (a :: b)
    | _, _ => none

def isLent : EVal → Bool
  | .slice _ _ _ _ => true
  | _ => false

def kcall (h : H) (f : FuncId) (args : List EVal) : Option EVal :=
  match argsB P h args with
  | some ts => match K f ts with
    | some v => if args.any isLent = true then (if flat v = true then some v else none) else some v
    | none => none
  | none => none

def drawCall (v : Option (List Out)) : Option (EVal × Option H) :=
  match v with
  | some [.val v h''] => some (v, some h'')
  | _ => none

def drawOp (r : Rec) (o : Oper) : Option EOut → Option (EVal × Option H)
  | some (.val v h') => bif isPure o || isQuiet o then some (v, none) else some (v, some h')
  | some (.enter fn args h') => match kcall P K h' fn args with
    | some v => some (v, none)
    | none => drawCall (r (.call fn args h'))
  | _ => none

/-- one operation in the order of the text: its value, and the memory behind it if it turns memory -/
def drawOne (r : Rec) (o : Oper) (t : T EVal) (h : H) : Option Bool → Option (EVal × Option H)
  | some false => some (undefE, none)
  | some true => drawOp P K r o (eOp P g h t o)
  | none => none

def consD (x : DStep) : Option (List DStep × EFr × H) → Option (List DStep × EFr × H)
  | some (st, f, h) => some (x :: st, f, h)
  | none => none

--DEBUG-BEGIN
def drawGo (r : Rec) (ops : Array Oper) (l : List Oper) : EFr → H → Option (List DStep × EFr × H) :=
  List.rec (motive := fun _ => EFr → H → Option (List DStep × EFr × H)) (fun f h => some ([], f, h))
    (fun o _ ih f h =>
      match dstOK o f.sz with
      | false => none
      | true => match drawOne P g K r o (restrFr ops o f) h (wantedE ops (restrFr ops o f) o) with
        | some (v, none) => consD ⟨o, f, v, h, none⟩ (ih (f.putd o.dst v) h)
        | some (v, some h') => consD ⟨o, f, v, h, some h'⟩ (ih (f.putd o.dst v) h')
        | none => none) l
--DEBUG-END

def quietV (x : DStep) : Option EOut → Bool
  | some (.val v _) => isQuiet x.o && EVal.beq v x.v
  | some (.enter fn args h') => match kcall P K h' fn args with
    | some v => EVal.beq v x.v
    | none => false
  | _ => false

def quietOK (ops : Array Oper) (x : DStep) (h : H) : Bool := quietV P K x (eOp P g h (restrFr ops x.o x.fr) x.o)

/-- the memories that operation i may meet -/
def verGo (ops : Array Oper) (A : List Nat) (i : Nat) (x : DStep) : Nat → H → List DStep → Bool
  | _, h, [] => quietOK P g K ops x h
  | a, h, y :: l => match y.act with
    | none => verGo ops A i x (a + 1) h l
    | some h' => bif hasB (nthM A i) a then verGo ops A i x (a + 1) h' l
      else bif hasB (nthM A a) i then quietOK P g K ops x h
      else quietOK P g K ops x h && verGo ops A i x (a + 1) h' l

def needs (ops : Array Oper) (x : DStep) : Bool :=
  match x.act with
  | some _ => false
  | none => bif isPure x.o then false else match wantedE ops (restrFr ops x.o x.fr) x.o with
    | some true => true
    | _ => false

--DEBUG-BEGIN
def actsOf (l : List DStep) : Nat → List Nat :=
  List.rec (motive := fun _ => Nat → List Nat) (fun _ => []) (fun x _ ih i => Option.rec (motive := fun _ => List Nat) (ih (Nat.succ i)) (fun _ => i :: ih (Nat.succ i)) x.act) l

/-- all that turns memory has its place before or behind operation i -/
def quick (A : List Nat) (i : Nat) (l : List Nat) : Bool :=
  List.rec (motive := fun _ => Bool) true (fun a _ ih => bif Nat.beq a i then ih else bif (bif Nat.blt a i then hasB (nthM A i) a else hasB (nthM A a) i) then ih else false) l

def chainOK (A : List Nat) (acts : List Nat) (l : List Nat) : Bool :=
  List.rec (motive := fun _ => Bool) true (fun a _ ih => bif quick A a acts then ih else false) l

def quietAll (ops : Array Oper) (A : List Nat) (all : List DStep) (h0 : H) (acts : List Nat) (l : List DStep) : Nat → Bool :=
  List.rec (motive := fun _ => Nat → Bool) (fun _ => true)
    (fun x _ ih i => bif (bif quick A i acts then true else bif needs ops x then verGo P g K ops A i x 0 h0 all else true) then ih (Nat.succ i) else false) l

def actsOK (ops : Array Oper) (A : List Nat) (st : List DStep) (h0 : H) (acts : List Nat) : Bool :=
  List.rec (motive := fun _ => Bool) true (fun _ _ _ => bif chainOK A acts acts then quietAll P g K ops A st h0 acts st 0 else false) acts
--DEBUG-END

def drawFin (ops : Array Oper) (A : List Nat) (h0 : H) : Option (List DStep × EFr × H) → Option (List Out)
  | some (st, f, h) =>
    bif staticOK ops A then bif actsOK P g K ops A st h0 (actsOf st 0) then some [.code .normal f h] else none else none
  | none => none

def runDraw (r : Rec) (ops : Array Oper) (fr : EFr) (h : H) : Option (List Out) :=
  drawFin P g K ops (ancGo ops.toList []) h (drawGo P g K r ops ops.toList fr h)

def runCode (r : Rec) (c : Code) (fr : EFr) (h : H) : Option (List Out) :=
  match c with
  | .skip => some [.code .normal fr h]
  | .label _ => some [.code .normal fr h]
  | .region _ ops dr => match dr with
    | false => r (.ops ops ops.toList fr h)
    | true => runDraw P g K r ops fr h
  | .seq a b => thenO (r (.code a fr h)) (seqK r b)
  | .cond c a b => condK r a b fr h (ev fr.tmps c)
  | .block id b => thenO (r (.code b fr h)) (blockK id)
  | .loop b => r (.again b fr h)
  | .scope b => r (.code b fr h)
  | .exit id => some [.code (.exit id) fr h]
  | .ret => some [.code .ret fr h]
  | .rangeFunc f params assign body => runRange P r params assign body fr h (ev fr.tmps f)
  | _ => none

def valK (r : Rec) (all : Array Oper) (rest : List Oper) (d : Option Tmp) (fr : EFr) : Out → Option (List Out)
  | .val v h => r (.ops all rest (fr.putd d v) h)
  | _ => none

def outK (r : Rec) (all : Array Oper) (rest : List Oper) (d : Option Tmp) (fr : EFr) : Option EOut → Option (List Out)
  | some (.val v h) => r (.ops all rest (fr.putd d v) h)
  | some (.enter f args h) => thenO (r (.call f args h)) (valK r all rest d fr)
  | some (.yield id args h) => thenO (r (.round id args h)) (valK r all rest d fr)
  | none => none

def mapK (r : Rec) (all : Array Oper) (rest : List Oper) (d : Option Tmp) (fr : EFr) : Option (List (EVal × H)) → Option (List Out)
  | some l => thenEach l fun v h => r (.ops all rest (fr.putd d v) h)
  | none => none

def nextMapO (h : H) : Option EVal → Option (List (EVal × H))
  | some x => nextMap h x
  | none => none

def runOp (r : Rec) (all : Array Oper) (o : Oper) (rest : List Oper) (fr : EFr) (h : H) : Option (List Out) :=
  match o.op with
  | .next it false => mapK r all rest o.dst fr (nextMapO h (ev fr.tmps it))
  | _ => outK r all rest o.dst fr (eOp P g h fr.tmps o)

def runWant (r : Rec) (all : Array Oper) (o : Oper) (rest : List Oper) (fr : EFr) (h : H) : Option Bool → Option (List Out)
  | some true => runOp P g r all o rest fr h
  | some false => r (.ops all rest (fr.putd o.dst undefE) h)
  | none => none

def runOps (r : Rec) (all : Array Oper) (l : List Oper) (fr : EFr) (h : H) : Option (List Out) :=
  match l with
  | [] => some [.code .normal fr h]
  | o :: rest => runWant P g r all o rest fr h (wantedE all fr.tmps o)

def finishCall (fn : Func) (fr : EFr) (h : H) : Option (List Out) :=
  match takeAll h fr.defers with
  | some h' => match resultsE P g h' fr.tmps fn.results.toList with
    | some vs => some [.val (one vs) h']
    | none => none
  | none => none

def callK (fn : Func) : Out → Option (List Out)
  | .code .ret fr h => finishCall P g fn fr h
  | .code .normal fr h => finishCall P g fn fr h
  | _ => none

def runCall' (r : Rec) (f : FuncId) (args : List EVal) (h : H) : Option (List Out) :=
  match P.funcs[f]? with
  | some fn => match fn.body with
    | some c => thenO (r (.code c ⟨Nat.max fn.ntmps args.length, initA args 0 (T.full (some undefE) 10), [], none⟩ h)) (callK P g fn)
    | none => none
  | none => none

def runCall (r : Rec) (f : FuncId) (args : List EVal) (h : H) : Option (List Out) :=
  match kcall P K h f args with
  | some v => some [.val v h]
  | none => runCall' P g r f args h

def roundK2 (id : Nat) : Out → Option (List Out)
  | .code e _ h => match h.get id with
    | some (.loop _ _ f t ps a b d) =>
      match e with
      | .normal => some [.val (.bool true) (h.put id (.loop .ready none f t ps a b d))]
      | .ret => some [.val (.bool false) (h.put id (.loop .done (some .ret) f t ps a b d))]
      | .exit i => some [.val (.bool false) (h.put id (.loop .done (some (.exit i)) f t ps a b d))]
    | _ => none
  | _ => none

def roundK1 (r : Rec) (id : Nat) (body : Code) : Out → Option (List Out)
  | .code .normal fr h => match h.get id with
    | some (.loop .ready pend f t ps a b d) => thenO (r (.code body fr (h.put id (.loop .busy pend f t ps a b d)))) (roundK2 id)
    | _ => none
  | _ => none

def runRound (r : Rec) (id : Nat) (args : List EVal) (h : H) : Option (List Out) :=
  match h.get id with
  | some (.loop _ _ n t ps assign body _) => match setParams n t ps args with
    | some t' => thenO (r (.code assign ⟨n, t', [], some id⟩ h)) (roundK1 r id body)
    | none => none
  | _ => none

def runTask (r : Rec) : Task → Option (List Out)
  | .code c fr h => runCode P g K r c fr h
  | .ops all l fr h => runOps P g r all l fr h
  | .call f args h => runCall P g K r f args h
  | .round id args h => runRound r id args h
  | .again b fr h => thenO (r (.code b fr h)) (loopK r b)

--DEBUG-BEGIN
def run (n : Nat) : Rec :=
  Nat.rec (motive := fun _ => Rec) (fun _ => none) (fun _ r t => runTask P g K r t) n
--DEBUG-END

def quietR : Option (List Out) → Option EVal
  | some [.val v _] => bif flat v then some v else none
  | _ => none

def quietK (n : Nat) (F : FuncId → Bool) : Known := fun f args =>
  bif F f && flatL args then quietR (run P g (fun _ _ => none) n (.call f args H.start)) else none

end
end Go.Ev
