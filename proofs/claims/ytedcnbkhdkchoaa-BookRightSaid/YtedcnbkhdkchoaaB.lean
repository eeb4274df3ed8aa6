/- What an operation comes to on plain data. -/
import Derived.Test.YtedcnbkhdkchoaaA
namespace Go.Proofs.Ytedcnbkhdkchoaa
open Go.RowKit
set_option linter.unusedVariables false
set_option linter.unusedSimpArgs false

/-- A constant. -/
def cD : Value → D
  | .bool b => .data (.bool b)
  | .int k n => .data (.int k n)
  | .string s => .data (.str s)
  | .slice none 0 0 => .emp 0
  | .pointer none => .data .nilp
  | .nilIface => .data .nili
  | .nilFunc => .data .nilf
  | _ => .junk

section
variable (P : Program)
def szT (t : TypeId) : Option Nat := (P.info? t).map (·.size)
def byT (t : TypeId) : Option Nat := (P.info? t).map (·.bytes)
/-- The cells of a type's zero value. -/
def zeT (t : TypeId) : Option (List D) := (P.info? t).bind fun i => i.zero.map fun v => v.cells.toList.map cD
/-- How many cells the zero value has. -/
def zlT (t : TypeId) : Option Nat := (P.info? t).bind fun i => i.zero.map fun v => v.cells.size
def aggT (t : TypeId) : Option Bool := match P.underlying t with
  | some (.struct _) | some (.array _ _) => some true
  | some _ => some false
  | none => none
def sliceT (t : TypeId) : Option TypeId := match P.underlying t with
  | some (.slice e) => some e
  | _ => none
def arrT (t : TypeId) : Option (Nat × TypeId) := match P.underlying t with
  | some (.array n e) => some (n, e)
  | _ => none
def intT (t : TypeId) : Option IntKind := match P.underlying t with
  | some (.int k) => some k
  | _ => none
def boolT (t : TypeId) : Bool := match P.underlying t with
  | some .bool => true
  | _ => false
def strT (t : TypeId) : Bool := match P.underlying t with
  | some .string => true
  | _ => false
/-- A field's place, its type. -/
def fldT (t : TypeId) (f : Nat) : Option (Nat × TypeId) := match P.underlying t with
  | some (.struct fs) => (fs[f]?).map fun x => (x.offset, x.type)
  | _ => none

variable (Γ : Nat → Option (List Data))
def evalD (e : Nat → D) : Operand → D
  | .tmp t => e t
  | .const v => cD v
  | .global g => match Γ g with
    | some cells => .cptr cells
    | none => .junk
  | .func f => .data (.fn f [])

/-- The function that a value is, and what it has captured. -/
def fnD : D → Option (FuncId × List D × List D)
  | .data (.fn f caps) => some (f, [], caps.map toD)
  | .fn f caps => some (f, [], caps)
  | .bnd f r => some (f, [r], [])
  | _ => none

/-- What two values of a type are held against each other comes to. -/
def EqR (t : TypeId) (x y : Data) (b : Bool) : Prop :=
  ∀ (L : Nat → Prop) (w : World) (ox oy : Operand) (vx vy : Value), VD L w x vx → VD L w y vy → (∀ op : BinOp, (eqGuard op t ox oy vx vy).run P w = .ok () w) ∧ (Op.equal t vx vy).run P w = .ok b w

/-- A function with a body. -/
def CallOk (f : FuncId) : Prop := ∀ (args : Array Value) (w : World), (callFunc f args).run P w = .ok (.enter f args) w
/-- What a call comes to, on plain data: whatever is live elsewhere. -/
def PC (f : FuncId) (xs : List Data) (r : Data) : Prop := CallOk P f ∧
  ∀ (L : Nat → Prop) (w : World) (vs : Array Value), Glob Γ L w → (∀ b, L b → b < w.heap.size) → xs.length = vs.size → (∀ (i : Nat) (x : Data) (v : Value), xs[i]? = some x → vs[i]? = some v → VD L w x v) →
    Calls P f vs w fun e w' => ∃ v, e = .returned v ∧ VD L w' r v ∧ Below w.heap.size w w'

/-- A value, its rows read out. (ok: rows that may still be written, too.) -/
inductive Frz (ok : Bool) (H : Nat → Blk) : D → Data → Prop where
  | data (x : Data) : Frz ok H (.data x) x
  | emp (es es' : Nat) : Frz ok H (.emp es) (.sl es' [])
  | ref (g off len es : Nat) (rw : Bool) (cells : List D) (l : List Data) (ds : Nat → D) (hg : H g = .blk rw cells) (hrw : ok = true ∨ rw = false) (hl : l.length = len) (hes : ∀ x ∈ l, x.cells.length = es) (hfit : off + len * es ≤ cells.length)
      (hc : ∀ (i : Nat) (x : Data), (flat l)[i]? = some x → cells[off + i]? = some (ds i)) (hv : ∀ (i : Nat) (x : Data), (flat l)[i]? = some x → Frz ok H (ds i) x) : Frz ok H (.ref g off len es) (.sl es l)
  | agg (cs : List D) (xs : List Data) (hl : cs.length = xs.length) (h : ∀ (i : Nat) (d : D) (x : Data), cs[i]? = some d → xs[i]? = some x → Frz ok H d x) : Frz ok H (.agg cs) (.agg xs)
  | fn (f : FuncId) (cs : List D) (xs : List Data) (hl : cs.length = xs.length) (h : ∀ (i : Nat) (d : D) (x : Data), cs[i]? = some d → xs[i]? = some x → Frz ok H d x) : Frz ok H (.fn f cs) (.fn f xs)
  | mref (g : Nat) (ks xs : List Data) (ds : List D) (hok : ok = true) (hg : H g = .obj (.mp ks ds)) (hl : ds.length = xs.length) (h : ∀ (i : Nat) (d : D) (x : Data), ds[i]? = some d → xs[i]? = some x → Frz ok H d x) : Frz ok H (.mref g) (.mp ks xs)
  | cptr (cells : List Data) : Frz ok H (.cptr cells) (.pc cells)
  | ptr (g off : Nat) (rw : Bool) (cells : List D) (l : List Data) (ds : Nat → D) (hg : H g = .blk rw cells) (hrw : ok = true ∨ rw = false)
      (hc : ∀ (i : Nat) (x : Data), l[i]? = some x → cells[off + i]? = some (ds i)) (hv : ∀ (i : Nat) (x : Data), l[i]? = some x → Frz ok H (ds i) x) : Frz ok H (.ptr g off) (.pc l)
def FrzL (ok : Bool) (H : Nat → Blk) (ds : List D) (xs : List Data) : Prop := ds.length = xs.length ∧ ∀ (i : Nat) (d : D) (x : Data), ds[i]? = some d → xs[i]? = some x → Frz ok H d x

/-- It holds no row: what it is hangs on no memory. -/
inductive Bare : Data → Prop where
  | bool (b : Bool) : Bare (.bool b)
  | int (k : IntKind) (n : Int) : Bare (.int k n)
  | str (s : ByteArray) : Bare (.str s)
  | agg (cs : List Data) (h : ∀ x ∈ cs, Bare x) : Bare (.agg cs)
  | tup (cs : List Data) (h : ∀ x ∈ cs, Bare x) : Bare (.tup cs)
  | nilf : Bare .nilf
  | nili : Bare .nili
  | nilp : Bare .nilp

/-- A row that is written no more. -/
def fz : Blk → Blk
  | .blk _ cells => .blk false cells
  | .obj o => .obj o
  | .dead => .dead
/-- A call of a Go function by what it comes to. -/
def callK (f : FuncId) (ds : List D) (H : Nat → Blk) (K : D → List Nat → List (Nat × Blk) → Prop) : Prop :=
  ∃ (F : List Nat) (xs : List Data) (r : Data) (rd : List Nat), (∀ g ∈ F, ∃ rw cells, H g = .blk rw cells) ∧ PC P Γ f xs r ∧
    ((F = [] ∧ Bare r ∧ ∀ H', (∀ g ∈ rd, H' g = H g) → FrzL true H' ds xs) ∨ ∀ H', (∀ g ∈ rd, H' g = H g) → FrzL false (Hp.upd H' (F.map fun g => (g, fz (H g)))) ds xs) ∧
    K (.data r) rd (F.map fun g => (g, fz (H g)))

def boolD (b : Bool) : D := .data (.bool b)
def intD (k : IntKind) (n : Int) : D := .data (.int k n)

def cmpI (op : BinOp) (a b : Int) : Option Bool := match op with
  | .eql => some (decide (a = b))
  | .neq => some (!decide (a = b))
  | .lss => some (decide (a < b))
  | .leq => some (decide (a ≤ b))
  | .gtr => some (decide (b < a))
  | .geq => some (decide (b ≤ a))
  | _ => none

/-- Two values held against each other. -/
def eqK (t : TypeId) (x y : Data) (K : Bool → Prop) : Prop := ∃ b, EqR P t x y b ∧ K b

/-- Two operands. -/
def binK (op : BinOp) (t : TypeId) (x y : D) (K : D → Prop) : Prop := match x, y with
  | .data (.int k a), .data (.int k' b) => (match op with
    | .add => k = k' ∧ K (intD k (k.wrap (a + b)))
    | .sub => k = k' ∧ K (intD k (k.wrap (a - b)))
    | .mul => k = k' ∧ K (intD k (k.wrap (a * b)))
    | .quo => k = k' ∧ b ≠ 0 ∧ K (intD k (k.wrap (a.tdiv b)))
    | .rem => k = k' ∧ b ≠ 0 ∧ K (intD k (a.tmod b))
    | .and => k = k' ∧ K (intD k (k.wrap (BitVec.ofInt k.bits a &&& BitVec.ofInt k.bits b).toNat))
    | .or => k = k' ∧ K (intD k (k.wrap (BitVec.ofInt k.bits a ||| BitVec.ofInt k.bits b).toNat))
    | .xor => k = k' ∧ K (intD k (k.wrap (BitVec.ofInt k.bits a ^^^ BitVec.ofInt k.bits b).toNat))
    | .andNot => k = k' ∧ K (intD k (k.wrap (BitVec.ofInt k.bits a &&& ~~~(BitVec.ofInt k.bits b)).toNat))
    | .shl => 0 ≤ b ∧ K (intD k (k.wrap (a * 2 ^ (min b.toNat k.bits))))
    | .shr => 0 ≤ b ∧ K (intD k (a.fdiv (2 ^ (min b.toNat k.bits))))
    | op => k = k' ∧ (match cmpI op a b with
      | some c => K (boolD c)
      | none => False))
  | .data (.str a), .data (.str b) => (match op with
    | .add => a.size + b.size ≤ 4611686018427387904 ∧ K (.data (.str (a ++ b)))
    | .eql => K (boolD (decide (a = b)))
    | .neq => K (boolD (!decide (a = b)))
    | .lss => K (boolD (Op.bytesLess a.toList b.toList))
    | .leq => K (boolD (Op.bytesLess a.toList b.toList || decide (a = b)))
    | .gtr => K (boolD (!(Op.bytesLess a.toList b.toList || decide (a = b))))
    | .geq => K (boolD (!Op.bytesLess a.toList b.toList))
    | _ => False)
  | .data (.bool a), .data (.bool b) => boolT P t = true ∧ (match op with
    | .eql => K (boolD (a == b))
    | .neq => K (boolD (!(a == b)))
    | _ => False)
  | .data x, .data y => (match op with
    | .eql => eqK P t x y fun b => K (boolD b)
    | .neq => eqK P t x y fun b => K (boolD (!b))
    | _ => False)
  | _, _ => False

def unK (op : UnOp) (x : D) (K : D → Prop) : Prop := match op, x with
  | .neg, .data (.int k n) => K (intD k (k.wrap (0 - n)))
  | .xor, .data (.int k n) => K (intD k (k.wrap (BitVec.ofInt k.bits (if k.signed then -1 else k.max) ^^^ BitVec.ofInt k.bits n).toNat))
  | .not, .data (.bool b) => K (boolD (!b))
  | _, _ => False

/-- Cells of a variable, or of what a pointer leads to. -/
def loadK (t : TypeId) (x : D) (H : Nat → Blk) (K : D → List Nat → Prop) : Prop := match x with
  | .ptr g off => (match H g with
    | .blk _ cells => (match aggT P t, szT P t with
      | some true, some n => off + n ≤ cells.length ∧ K (mkAgg ((cells.drop off).take n)) [g]
      | some false, _ => ∃ d, cells[off]? = some d ∧ K d [g]
      | _, _ => False)
    | _ => False)
  | .cptr cells => (match aggT P t, szT P t with
      | some true, some n => n ≤ cells.length ∧ K (.data (.agg (cells.take n))) []
      | some false, _ => ∃ d, cells[0]? = some d ∧ K (.data d) []
      | _, _ => False)
  | _ => False

/-- Cells put over others. -/
def over (cells : List D) (off : Nat) : List D → List D
  | [d] => cells.set off d
  | vs => cells.take off ++ vs ++ cells.drop (off + vs.length)

def storeK (t : TypeId) (x v : D) (H : Nat → Blk) (K : List (Nat × Blk) → Prop) : Prop := match x with
  | .ptr g off => (match H g with
    | .blk true cells => szT P t = some v.cells.length ∧ v.cells.all D.cell = true ∧ off + v.cells.length ≤ cells.length ∧ K [(g, .blk true (over cells off v.cells))]
    | _ => False)
  | _ => False

/-- Parts laid over the zero value's cells. -/
def fillD (place : Nat → Option (Nat × Nat)) (cells : List D) : List (Nat × D) → Option (List D)
  | [] => some cells
  | (i, d) :: rest => match place i with
    | none => none
    | some (off, size) => if d.cells.length = size ∧ off + size ≤ cells.length ∧ d.cells.all D.cell = true then fillD place (over cells off d.cells) rest else none

/-- Where a struct's fields lie, how long they are. -/
def plT (t : TypeId) : Option (List (Nat × Nat)) := match P.underlying t with
  | some (.struct fs) => fs.toList.mapM fun f => (P.info? f.type).map fun i => (f.offset, i.size)
  | _ => none

def buildK (t : TypeId) (parts : List (Nat × D)) (K : D → Prop) : Prop := match zeT P t with
  | some z => (match arrT P t with
    | some (_, e) => (match szT P e with
      | some n => (match fillD (fun i => some (i * n, n)) z parts with
        | some cells => K (mkAgg cells)
        | none => False)
      | none => False)
    | none => (match plT P t with
      | some places => (match fillD (fun i => places[i]?) z parts with
        | some cells => K (mkAgg cells)
        | none => False)
      | none => False))
  | none => False

/-- What stands behind a slice: its cells, how many elements it has. -/
def srcK (x : D) (es : Nat) (H : Nat → Blk) (K : Nat → List D → List Nat → Prop) : Prop := match x with
  | .emp _ => K 0 [] []
  | .data (.sl es' l) => es' = es ∧ K l.length ((flat l).map .data) []
  | .ref g off len es' => es' = es ∧ (match H g with
    | .blk _ cells => off + len * es ≤ cells.length ∧ K len ((cells.drop off).take (len * es)) [g]
    | _ => False)
  | .cut g off len cp es' => es' = es ∧ (match H g with
    | .blk _ cells => off + len * es ≤ cells.length ∧ K len ((cells.drop off).take (len * es)) [g]
    | _ => False)
  | .data (.str s) => es = 1 ∧ K s.size (s.toList.map fun b => intD .u8 b.toNat) []
  | _ => False

def zerosK (e : TypeId) (n : Nat) (K : List D → Prop) : Prop := match zeT P e with
  | some z => z.all D.cell = true ∧ szT P e = some z.length ∧ 0 < z.length ∧ K (List.replicate n z).flatten
  | none => False

def appendK (st xt : TypeId) (x y : D) (H : Nat → Blk) (fr : Nat) (K : D → List Nat → List (Nat × Blk) → Prop) : Prop :=
  match sliceT P st with
  | some e => (match szT P e, byT P e with
    | some es, some by_ => 0 < es ∧ zlT P e = some es ∧
      (match x with
      | .emp _ => (if (intT P xt).isSome then (match y with
          | .data (.int _ n) => 0 ≤ n ∧ n * by_ ≤ 140737488355328 ∧ n ≤ 140737488355328 ∧ zerosK P e n.toNat fun z => K (.ref fr 0 n.toNat es) [] [(fr, .blk true z)]
          | _ => False)
        else ((sliceT P xt).isSome || strT P xt) = true ∧ srcK y es H fun n cs rd => cs.all D.cell = true ∧ n * by_ ≤ 140737488355328 ∧ n ≤ 140737488355328 ∧ K (.ref fr 0 n es) rd [(fr, .blk true cs)])
      | .ref g 0 len es' => es' = es ∧ (match H g with
        | .blk true cells => cells.length = len * es ∧ (if (intT P xt).isSome then (match y with
            | .data (.int _ n) => 0 ≤ n ∧ (len + n) * by_ ≤ 140737488355328 ∧ len + n ≤ 140737488355328 ∧ zerosK P e n.toNat fun z => K (.ref fr 0 (len + n.toNat) es) [g] [(g, .dead), (fr, .blk true (cells ++ z))]
            | _ => False)
          else ((sliceT P xt).isSome || strT P xt) = true ∧ srcK y es H fun n cs rd => cs.all D.cell = true ∧ (len + n) * by_ ≤ 140737488355328 ∧ len + n ≤ 140737488355328 ∧ K (.ref fr 0 (len + n) es) (g :: rd) [(g, .dead), (fr, .blk true (cells ++ cs))])
        | _ => False)
      | .cut g off len cp es' => es' = es ∧ (match H g with
        | .blk true cells => (intT P xt).isSome = false ∧ ((sliceT P xt).isSome || strT P xt) = true ∧ off + cp * es ≤ cells.length ∧ srcK y es H fun n cs rd => cs.all D.cell = true ∧ len + n ≤ cp ∧ K (.cut g off (len + n) cp es) (g :: rd) [(g, .blk true (over cells (off + len * es) cs))]
        | _ => False)
      | _ => False)
    | _, _ => False)
  | none => False

/-- A row's elements put to zero. -/
def clearK (t : TypeId) (x : D) (H : Nat → Blk) (K : D → List Nat → List (Nat × Blk) → Prop) : Prop :=
  match sliceT P t with
  | some e => (match x with
    | .emp _ => K (.data (.tup [])) [] []
    | .ref g off len es => (match H g with
      | .blk true cells => szT P e = some es ∧ off + len * es ≤ cells.length ∧ zerosK P e len fun z => K (.data (.tup [])) [g] [(g, .blk true (over cells off z))]
      | _ => False)
    | .cut g off len _ es => (match H g with
      | .blk true cells => szT P e = some es ∧ off + len * es ≤ cells.length ∧ zerosK P e len fun z => K (.data (.tup [])) [g] [(g, .blk true (over cells off z))]
      | _ => False)
    | _ => False)
  | none => False

def copyK (st : TypeId) (x y : D) (H : Nat → Blk) (K : D → List Nat → List (Nat × Blk) → Prop) : Prop :=
  match sliceT P st with
  | some e => (match szT P e with
    | some es => (match x with
      | .ref g off len es' => es' = es ∧ (match H g with
        | .blk true cells => off + len * es ≤ cells.length ∧ srcK y es H fun n cs rd => cs.all D.cell = true ∧ K (intD .i64 (min n len : Nat)) (g :: rd) [(g, .blk true (over cells off (cs.take (min n len * es))))]
        | _ => False)
      | _ => False)
    | none => False)
  | none => False

def lenK (t : TypeId) (x : D) (K : D → Prop) : Prop := match x with
  | .data (.str s) => strT P t = true ∧ K (intD .i64 s.size)
  | .data (.sl _ l) => (sliceT P t).isSome = true ∧ K (intD .i64 l.length)
  | .ref _ _ len _ => (sliceT P t).isSome = true ∧ K (intD .i64 len)
  | .cut _ _ len _ _ => (sliceT P t).isSome = true ∧ K (intD .i64 len)
  | .emp _ => (sliceT P t).isSome = true ∧ K (intD .i64 0)
  | _ => match arrT P t with
    | some (n, _) => K (intD .i64 n)
    | none => False

def natD : D → Option Int
  | .data (.int _ n) => some n
  | _ => none

/-- The bounds of a slice expression, as far as they are given; how long what is cut is. -/
def boundsK (len : Nat) (lo hi : Option D) (K : Nat → Nat → Prop) : Prop :=
  match (match lo with | none => some 0 | some d => natD d), (match hi with | none => some (len : Int) | some d => natD d) with
  | some l, some h => 0 ≤ l ∧ l ≤ h ∧ h ≤ len ∧ K l.toNat h.toNat
  | _, _ => False

/-- The bounds of a slice of a row of which so much room is known. -/
def boundsC (len cp : Nat) (lo hi mx : Option D) (K : Nat → Nat → Nat → Prop) : Prop :=
  match (match lo with | none => some 0 | some d => natD d), (match hi, mx with | none, none => some (len : Int) | none, some _ => none | some d, _ => natD d), (match mx with | none => some (cp : Int) | some d => natD d) with
  | some l, some h, some m => 0 ≤ l ∧ l ≤ h ∧ h ≤ m ∧ m ≤ cp ∧ K l.toNat h.toNat m.toNat
  | _, _, _ => False

def cutK (t : TypeId) (g off len cp es : Nat) (lo hi mx : Option D) (K : D → Prop) : Prop := match sliceT P t with
  | some e => szT P e = some es ∧ boundsC len cp lo hi mx fun a b c => K (.cut g (off + a * es) (b - a) (c - a) es)
  | none => False

def sliceK (t : TypeId) (x : D) (lo hi mx : Option D) (K : D → Prop) : Prop :=
  match mx with
  | some _ => False
  | none => match x with
    | .data (.str s) => strT P t = true ∧ boundsK s.size lo hi fun l h => K (.data (.str (s.extract l h)))
    | .data (.sl es l) => (match sliceT P t with
      | some e => szT P e = some es ∧ boundsK l.length lo hi fun a b => K (.data (.sl es ((l.take b).drop a)))
      | none => False)
    | .ref g off len es => (match sliceT P t with
      | some e => szT P e = some es ∧ boundsK len lo hi fun a b => K (.ref g (off + a * es) (b - a) es)
      | none => False)
    | .emp es => (match sliceT P t with
      | some e => szT P e = some es ∧ boundsK 0 lo hi fun a b => K (.emp es)
      | none => False)
    | _ => False

/-- A slice of an array that lies in a variable: it takes the block's size to be known. -/
def sliceArrK (t : TypeId) (x : D) (lo hi mx : Option D) (H : Nat → Blk) (K : D → List Nat → Prop) : Prop :=
  match mx with
  | some _ => False
  | none => match x, arrT P t with
    | .ptr g off, some (n, e) => (match szT P e, H g with
      | some es, .blk _ cells => n ≤ 9223372036854775807 ∧ off + n * es ≤ cells.length ∧ boundsK n lo hi fun a b => K (.ref g (off + a * es) (b - a) es) [g]
      | _, _ => False)
    | .cptr cells, some (n, e) => szT P e = some 1 ∧ n ≤ 9223372036854775807 ∧ n ≤ cells.length ∧ (∀ x ∈ cells.take n, x.cell = true) ∧ boundsK n lo hi fun a b => K (.data (.sl 1 (((cells.take n).take b).drop a))) []
    | _, _ => False

def indexAddrK (t : TypeId) (x ix : D) (K : D → Prop) : Prop := match ix with
  | .data (.int _ i) => (match x with
    | .data (.sl es l) => (match sliceT P t with
      | some e => szT P e = some es ∧ 0 ≤ i ∧ ∃ y, l[i.toNat]? = some y ∧ K (.cptr y.cells)
      | none => False)
    | .ref g off len es => (match sliceT P t with
      | some e => szT P e = some es ∧ 0 ≤ i ∧ i < len ∧ K (.ptr g (off + i.toNat * es))
      | none => False)
    | .ptr g off => (match arrT P t with
      | some (n, e) => 0 ≤ i ∧ i < n ∧ (match szT P e with
        | some es => K (.ptr g (off + i.toNat * es))
        | none => False)
      | none => False)
    | .cptr cells => (match arrT P t with
      | some (n, e) => 0 ≤ i ∧ i < n ∧ (match szT P e with
        | some es => K (.cptr (cells.drop (i.toNat * es)))
        | none => False)
      | none => False)
    | _ => False)
  | _ => False

def fieldAddrK (t : TypeId) (x : D) (f : Nat) (K : D → Prop) : Prop := match fldT P t f with
  | some (o, ft) => (match szT P ft with
    | some (_ + 1) => (match x with
      | .ptr g off => K (.ptr g (off + o))
      | .cptr cells => K (.cptr (cells.drop o))
      | _ => False)
    | _ => False)
  | none => False

/-- A part of an aggregate that is held as a value. -/
def partK (t : TypeId) (cs : List D) (off : Nat) (K : D → Prop) : Prop :=
  match aggT P t, szT P t with
  | some true, some n => off + n ≤ cs.length ∧ K (mkAgg ((cs.drop off).take n))
  | some false, _ => ∃ d, cs[off]? = some d ∧ K d
  | _, _ => False
def aggD : D → Option (List D)
  | .data (.agg cs) => some (cs.map .data)
  | .agg cs => some cs
  | _ => none
def fieldK (t : TypeId) (x : D) (f : Nat) (K : D → Prop) : Prop := match fldT P t f, aggD x with
  | some (o, ft), some cs => partK P ft cs o K
  | _, _ => False
def indexK (t : TypeId) (x ix : D) (K : D → Prop) : Prop := match ix with
  | .data (.int _ i) => (match x with
    | .data (.str s) => strT P t = true ∧ 0 ≤ i ∧ ∃ b, s[i.toNat]? = some b ∧ K (intD .u8 b.toNat)
    | x => match arrT P t, aggD x with
      | some (n, e), some cs => 0 ≤ i ∧ i < n ∧ (match szT P e with
        | some es => partK P e cs (i.toNat * es) K
        | none => False)
      | _, _ => False)
  | _ => False

def convK (src dst : TypeId) (x : D) (K : D → Prop) : Prop := match x with
  | .data (.int _ n) => (match intT P dst with
    | some k => K (intD k (k.wrap n))
    | none => False)
  | .data (.str s) => strT P dst = true ∧ K (.data (.str s))
  | .data (.sl es l) => es = 1 ∧ strT P dst = true ∧ (match sliceT P src with | some e => intT P e = some .u8 | none => False) ∧ ∃ bs : List UInt8, l = bs.map (fun b => Data.int .u8 (b.toNat : Int)) ∧ K (.data (.str ⟨bs.toArray⟩))
  | _ => False

/-- The conversion of a constant's bytes, a row of the call's own: it is written no more. -/
def markK (src dst : TypeId) (g off len es : Nat) (H : Nat → Blk) (K : D → List (Nat × Blk) → Prop) : Prop :=
  src = dst ∧ off = 0 ∧ es = 1 ∧ 0 < len ∧ (match sliceT P dst with
    | some e => intT P e = some .u8 ∧ (match H g with
      | .blk true cells => (match allData cells with
        | some l => l.length = len ∧ l.all Data.cell = true ∧ K (.data (.sl 1 l)) [(g, .dead)]
        | none => False)
      | _ => False)
    | none => False)

def minmaxK (big : Bool) (ds : List D) (K : D → Prop) : Prop := match ds with
  | [.data (.int k a), .data (.int k' b)] => k = k' ∧ K (intD k (if big then (if b > a then b else a) else (if b < a then b else a)))
  | _ => False

/-- A value that is stored or handed on under a type: an empty row takes the type's. -/
def coe (t : TypeId) : D → D
  | .emp n => (match sliceT P t with
    | some e => (match szT P e with
      | some n => .emp n
      | none => .emp n)
    | none => .emp n)
  | d => d

def extractK (x : D) (i : Nat) (K : D → Prop) : Prop := match x with
  | .data (.tup vs) => ∃ v, vs[i]? = some v ∧ K (.data v)
  | _ => False

/-- A map's types of keys and of values. -/
def mapT (t : TypeId) : Option (TypeId × TypeId) := match P.underlying t with
  | some (.map k e) => some (k, e)
  | _ => none
/-- Keys that are told apart at once. -/
def keyT (t : TypeId) (x : Data) : Bool := match P.underlying t, x with
  | some (.int k), .int k' _ => decide (k' = k)
  | some .string, .str _ => true
  | some .bool, .bool _ => true
  | _, _ => false
def keyEq : Data → Data → Option Bool
  | .int k a, .int k' b => if k = k' then some (a == b) else none
  | .str a, .str b => some (a == b)
  | .bool a, .bool b => some (a == b)
  | _, _ => none
/-- Where a key stands; nothing, if keys can't be told apart. -/
def findD (key : Data) : List Data → Nat → Option (Option Nat)
  | [], _ => some none
  | k :: ks, i => match keyEq key k with
    | some true => some (some i)
    | some false => findD key ks (i + 1)
    | none => none
/-- A type's zero value. -/
def zvD : Value → D
  | .agg vs => mkAgg (vs.toList.map cD)
  | v => cD v
def zvT (t : TypeId) : Option D := (P.info? t).bind fun i => i.zero.map zvD
def zvK (t : TypeId) (K : D → Prop) : Prop := match zvT P t with
  | some d => K d
  | none => False
/-- What a map, of these keys and values, has for a key. -/
def lookK (et : TypeId) (ks : List Data) (xs : List D) (key : Data) (ok : Bool) (K : D → Prop) : Prop := match findD key ks 0 with
  | some (some i) => (match xs[i]?, ok with
    | some d, false => K d
    | some (.data x), true => K (.data (.tup [x, .bool true]))
    | _, _ => False)
  | some none => (if ok then zvK P et fun d => (match d with
      | .data x => K (.data (.tup [x, .bool false]))
      | _ => False) else zvK P et K)
  | none => False
def lookupK (t : TypeId) (x key : D) (ok : Bool) (H : Nat → Blk) (K : D → List Nat → Prop) : Prop := match mapT P t, key with
  | some (kt, et), .data k => keyT P kt k = true ∧ (match x with
    | .data (.mp ks xs) => lookK P et ks (xs.map .data) k ok fun d => K d []
    | .mref g => (match H g with
      | .obj (.mp ks xs) => lookK P et ks xs k ok fun d => K d [g]
      | _ => False)
    | _ => False)
  | _, _ => False
def insertK (t : TypeId) (x key v : D) (H : Nat → Blk) (K : List Nat → List (Nat × Blk) → Prop) : Prop := match mapT P t, key, x with
  | some (kt, _), .data k, .mref g => keyT P kt k = true ∧ (match H g with
    | .obj (.mp ks xs) => (match findD k ks 0 with
      | some (some i) => K [g] [(g, .obj (.mp ks (xs.set i v)))]
      | some none => K [g] [(g, .obj (.mp (ks ++ [k]) (xs ++ [v])))]
      | none => False)
    | _ => False)
  | _, _, _ => False
def entryK (x : D) (H : Nat → Blk) (K : D → List Nat → Prop) : Prop := match x with
  | .iref g => (match H g with
    | .obj (.it ks xs _ (some i)) => ∃ k v, ks[i]? = some k ∧ xs[i]? = some v ∧ K (.data (.tup [k, v])) [g]
    | _ => False)
  | _ => False
/-- A pointer that is none. -/
def sureD : D → Bool
  | .ptr _ _ | .cptr _ | .data (.pc _) => true
  | _ => false
/-- A pointer as it stands in a slot. -/
def ptrD : D → D
  | .data (.pc c) => .cptr c
  | d => d

def opK (o : Oper) (e : Nat → D) (H : Nat → Blk) (fr : Nat) (K : D → List Nat → List (Nat × Blk) → Prop) : Prop :=
  let ρ := evalD Γ e
  match o.op with
  | .move x | .assign x => K (coe P o.type (ρ x)) [] []
  | .pick c a b => (match ρ c with
    | .data (.bool true) => K (ρ a) [] []
    | .data (.bool false) => K (ρ b) [] []
    | _ => False)
  | .alloc t => (match zeT P t with
    | some z => z.all D.cell = true ∧ K (.ptr fr 0) [] [(fr, .blk true z)]
    | none => False)
  | .box t x => (ρ x).cells.all D.cell = true ∧ K (.ptr fr 0) [] [(fr, .blk true (ρ x).cells)]
  | .build t parts => buildK P t (parts.toList.map fun x => (x.1, ρ x.2)) fun d => K d [] []
  | .buildSlice t len parts => (match sliceT P t with
    | some e => (match szT P e with
      | some es => len * es ≤ 16777216 ∧ (if len = 0 then parts.size = 0 ∧ K (.emp es) [] [] else zerosK P e len fun z =>
        match fillD (fun i => some (i * es, es)) z (parts.toList.map fun x => (x.1, ρ x.2)) with
        | some cells => cells.all D.cell = true ∧ K (.ref fr 0 len es) [] [(fr, .blk true cells)]
        | none => False)
      | none => False)
    | none => False)
  | .load t a => loadK P t (ρ a) H fun d rd => K d rd []
  | .store t a x => storeK P t (ρ a) (coe P t (ρ x)) H fun u => K .junk [] u
  | .binOp op t x y _ => binK P op t (ρ x) (ρ y) fun d => K d [] []
  | .unOp op _ x => unK op (ρ x) fun d => K d [] []
  | .convert src dst x => (match ρ x with
    | .ref g off len es => markK P src dst g off len es H fun d u => K d [g] u
    | y => (P.underlying src).isSome = true ∧ convK P src dst y fun d => K d [] [])
  | .makeSlice t l c => (match sliceT P t with
    | some e => (match szT P e, byT P e, ρ l, ρ c with
      | some es, some by_, .data (.int _ n), .data (.int _ m) => 0 ≤ n ∧ n ≤ m ∧ m * by_ ≤ 140737488355328 ∧ m ≤ 9223372036854775807 ∧ zerosK P e n.toNat fun z => K (.ref fr 0 n.toNat es) [] [(fr, .blk true z)]
      | _, _, _, _ => False)
    | none => False)
  | .slice t x lo hi mx => (match ρ x with
    | .ptr _ _ | .cptr _ => sliceArrK P t (ρ x) (lo.map ρ) (hi.map ρ) (mx.map ρ) H fun d rd => K d rd []
    | .cut g off len cp es => cutK P t g off len cp es (lo.map ρ) (hi.map ρ) (mx.map ρ) fun d => K d [] []
    | _ => sliceK P t (ρ x) (lo.map ρ) (hi.map ρ) (mx.map ρ) fun d => K d [] [])
  | .fieldAddr t x f => fieldAddrK P t (ρ x) f fun d => K d [] []
  | .field t x f => fieldK P t (ρ x) f fun d => K d [] []
  | .indexAddr t x ix => indexAddrK P t (ρ x) (ρ ix) fun d => K d [] []
  | .index t x ix => indexK P t (ρ x) (ρ ix) fun d => K d [] []
  | .extract x i => extractK (ρ x) i fun d => K d [] []
  | .nilCheck x => sureD (ρ x) = true ∧ K (ptrD (ρ x)) [] []
  | .makeMap _ none => K (.mref fr) [] [(fr, .obj (.mp [] []))]
  | .insert t m k x | .mapUpdate t m k x => insertK P t (ρ m) (ρ k) (coe P (match mapT P t with | some x => x.2 | none => t) (ρ x)) H fun rd u => K .junk rd u
  | .lookup t x i ok => lookupK P t (ρ x) (ρ i) ok H fun d rd => K d rd []
  | .range t x => (match mapT P t, ρ x with
    | some _, .data (.mp ks xs) => K (.iref fr) [] [(fr, .obj (.it ks xs (List.range ks.length) none))]
    | _, _ => False)
  | .entry x => entryK (ρ x) H fun d rd => K d rd []
  | .makeFunc fn first caps => (match fn, first.toList with
    | .func f, [] => K (.fn f (caps.toList.map ρ)) [] []
    | .func f, [r] => caps.size = 0 ∧ K (.bnd f (ρ r)) [] []
    | _, _ => False)
  | .call c => (match c.callee with
    | .value x => (match fnD (ρ x) with
      | some (f, pre, caps) => callK P Γ f (pre ++ (c.args.toList.map ρ ++ caps)) H K
      | none => False)
    | .builtin .len => (match c.argTypes[0]?, c.args.toList with
      | some t, [x] => lenK P t (ρ x) fun d => K d [] []
      | _, _ => False)
    | .builtin .append => (match c.argTypes[0]?, c.argTypes[1]?, c.args.toList with
      | some st, some xt, [x, y] => appendK P st xt (ρ x) (ρ y) H fr K
      | _, _, _ => False)
    | .builtin .copy => (match c.argTypes[0]?, c.args.toList with
      | some st, [x, y] => copyK P st (ρ x) (ρ y) H K
      | _, _ => False)
    | .builtin .clear => (match c.argTypes[0]?, c.args.toList with
      | some t, [x] => clearK P t (ρ x) H K
      | _, _ => False)
    | .builtin .min => minmaxK false (c.args.toList.map ρ) fun d => K d [] []
    | .builtin .max => minmaxK true (c.args.toList.map ρ) fun d => K d [] []
    | _ => False)
  | _ => False
end
end Go.Proofs.Ytedcnbkhdkchoaa
