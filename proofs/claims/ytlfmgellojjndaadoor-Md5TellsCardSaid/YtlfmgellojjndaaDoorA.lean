/- Plain data in the place of memory: values without addresses, the rows and variables of a call's own by number, and how these stand to the model's values and blocks. -/
import Derived.WalkKit
import Derived.Below
import Derived.Laws.CopyOwn
import Derived.Deep.Draws
import Derived.Lib.Hide
namespace Go.Proofs.YtlfmgellojjndaaDoor
open Go.RowKit
set_option linter.unusedVariables false
set_option linter.unusedSimpArgs false

/-- A value without addresses. -/
inductive Data where
  | bool (b : Bool)
  | int (k : IntKind) (n : Int)
  | str (s : ByteArray)
  | agg (cs : List Data)
  | sl (es : Nat) (l : List Data)
  | tup (vs : List Data)
  | fn (f : FuncId)
  | nilf
  | ifc (t : TypeId) (d : Data)
  | nili
  | nilp
  /-- A pointer to cells that nobody writes. -/
  | pc (cells : List Data)
  deriving Inhabited

def Data.cells : Data → List Data
  | .agg cs => cs
  | d => [d]
/-- The cells of a row of elements. -/
def flat (l : List Data) : List Data := l.flatMap Data.cells
/-- It stands in one cell. -/
def Data.cell : Data → Bool
  | .agg _ | .tup _ => false
  | _ => true

/-- Where a block of the walk's lies: nowhere yet; nowhere at all (a row that was never made); at a block of so many cells. -/
inductive MB where
  | res
  | nil
  | at (b sz : Nat)

/-- A value with the call's own rows and variables by number. -/
inductive D where
  | data (x : Data)
  | emp (es : Nat)
  | ref (g off len es : Nat)
  | ptr (g off : Nat)
  | cptr (cells : List Data)
  | agg (cs : List D)
  | fn (f : FuncId) (caps : List D)
  | junk
  deriving Inhabited

def D.cells : D → List D
  | .data x => x.cells.map .data
  | .agg cs => cs
  | d => [d]
def D.cell : D → Bool
  | .data x => x.cell
  | .agg _ | .junk => false
  | _ => true
/-- All cells, if all of them are plain. -/
def allData : List D → Option (List Data)
  | [] => some []
  | .data x :: l => (allData l).map (x :: ·)
  | _ :: _ => none
def mkAgg (cs : List D) : D := match allData cs with
  | some xs => .data (.agg xs)
  | none => .agg cs

inductive Blk where
  | dead
  | blk (rw : Bool) (cells : List D)
  deriving Inhabited

section
variable (L : Nat → Prop) (w : World)
inductive VD : Data → Value → Prop where
  | bool (b : Bool) : VD (.bool b) (.bool b)
  | int (k : IntKind) (n : Int) : VD (.int k n) (.int k n)
  | str (s : ByteArray) : VD (.str s) (.string s)
  | agg (cs : List Data) (vs : Array Value) (hl : cs.length = vs.size) (h : ∀ (i : Nat) (x : Data) (v : Value), cs[i]? = some x → vs[i]? = some v → VD x v) : VD (.agg cs) (.agg vs)
  | sl (es : Nat) (l : List Data) (a : Option Addr) (n cap b off : Nat) (vs : Nat → Value) (hn : n = l.length) (hle : n ≤ cap) (hm : cap ≤ maxLen) (hes : ∀ x ∈ l, x.cells.length = es)
      (ha : (a = some ⟨b, off, none⟩ ∧ b < w.heap.size ∧ ¬ L b) ∨ l = []) (hc : ∀ (i : Nat) (x : Data), (flat l)[i]? = some x → w.cell? ⟨b, off + i, none⟩ = some (vs i))
      (hv : ∀ (i : Nat) (x : Data), (flat l)[i]? = some x → VD x (vs i)) : VD (.sl es l) (.slice a n cap)
  | tup (cs : List Data) (vs : Array Value) (hl : cs.length = vs.size) (h : ∀ (i : Nat) (x : Data) (v : Value), cs[i]? = some x → vs[i]? = some v → VD x v) : VD (.tup cs) (.tuple vs)
  | fn (f : FuncId) : VD (.fn f) (.func (.func f) #[] #[])
  | nilf : VD .nilf .nilFunc
  | ifc (t : TypeId) (d : Data) (v : Value) (h : VD d v) : VD (.ifc t d) (.iface t v)
  | nili : VD .nili .nilIface
  | nilp : VD .nilp (.pointer none)
  | pc (cells : List Data) (b off : Nat) (vs : Nat → Value) (hb : b < w.heap.size) (hL : ¬ L b) (hc : ∀ (i : Nat) (x : Data), cells[i]? = some x → w.cell? ⟨b, off + i, none⟩ = some (vs i))
      (hv : ∀ (i : Nat) (x : Data), cells[i]? = some x → VD x (vs i)) : VD (.pc cells) (.pointer (some ⟨b, off, none⟩))

inductive VV (m : Nat → MB) : D → Value → Prop where
  | data (x : Data) (v : Value) (h : VD L w x v) : VV m (.data x) v
  | emp (es : Nat) (a : Option Addr) : VV m (.emp es) (.slice a 0 0)
  | ref (g off len es b sz cap o : Nat) (hm : m g = .at b sz) (ho : o = off ∨ cap = 0) (hs : off + cap * es ≤ sz) (hl : len ≤ cap) (hc : cap ≤ maxLen) : VV m (.ref g off len es) (.slice (some ⟨b, o, none⟩) len cap)
  | ref0 (g es : Nat) (a : Option Addr) (hm : m g = .nil) : VV m (.ref g 0 0 es) (.slice a 0 0)
  | ptr (g off b sz : Nat) (hm : m g = .at b sz) : VV m (.ptr g off) (.pointer (some ⟨b, off, none⟩))
  | cptr (cells : List Data) (b off : Nat) (vs : Nat → Value) (hb : b < w.heap.size) (hL : ¬ L b) (hc : ∀ (i : Nat) (x : Data), cells[i]? = some x → w.cell? ⟨b, off + i, none⟩ = some (vs i))
      (hv : ∀ (i : Nat) (x : Data), cells[i]? = some x → VD L w x (vs i)) : VV m (.cptr cells) (.pointer (some ⟨b, off, none⟩))
  | agg (cs : List D) (vs : Array Value) (hl : cs.length = vs.size) (h : ∀ (i : Nat) (x : D) (v : Value), cs[i]? = some x → vs[i]? = some v → VV m x v) : VV m (.agg cs) (.agg vs)
  | fn (f : FuncId) (caps : List D) (vs : Array Value) (hl : caps.length = vs.size) (h : ∀ (i : Nat) (x : D) (v : Value), caps[i]? = some x → vs[i]? = some v → VV m x v) : VV m (.fn f caps) (.func (.func f) #[] vs)
  | junk (v : Value) : VV m .junk v
end

/-- The world has grown: what isn't live holds what it held, and isn't live. -/
structure Grow (L : Nat → Prop) (w : World) (L' : Nat → Prop) (w' : World) : Prop where
  size : w.heap.size ≤ w'.heap.size
  keep : ∀ b, b < w.heap.size → ¬ L b → w'.heap[b]? = w.heap[b]? ∧ ¬ L' b

theorem Grow.refl (L : Nat → Prop) (w : World) : Grow L w L w := ⟨Nat.le_refl _, fun _ _ h => ⟨rfl, h⟩⟩
theorem Grow.trans {L L' L'' : Nat → Prop} {w w' w'' : World} (h : Grow L w L' w') (k : Grow L' w' L'' w'') : Grow L w L'' w'' :=
  ⟨Nat.le_trans h.size k.size, fun b hb hL => by
    obtain ⟨h1, h2⟩ := h.keep b hb hL
    obtain ⟨h3, h4⟩ := k.keep b (Nat.lt_of_lt_of_le hb h.size) h2
    exact ⟨h3.trans h1, h4⟩⟩
theorem Grow.cell {L L' : Nat → Prop} {w w' : World} (h : Grow L w L' w') {b : Nat} (hb : b < w.heap.size) (hL : ¬ L b) (o : Nat) : w'.cell? ⟨b, o, none⟩ = w.cell? ⟨b, o, none⟩ :=
  World.cell?_of_block (w := w) (a := ⟨b, o, none⟩) (h.keep b hb hL).1
/-- Fewer live ones. -/
theorem Grow.less {L L' : Nat → Prop} (w : World) (h : ∀ b, L' b → L b) : Grow L w L' w := ⟨Nat.le_refl _, fun _ _ hL => ⟨rfl, fun k => hL (h _ k)⟩⟩

theorem VD.mono {L L' : Nat → Prop} {w w' : World} (hg : Grow L w L' w') {x : Data} {v : Value} (h : VD L w x v) : VD L' w' x v := by
  induction h with
  | bool b => exact .bool b
  | int k n => exact .int k n
  | str s => exact .str s
  | agg cs vs hl _ ih => exact .agg cs vs hl ih
  | sl es l a n cap b off vs hn hle hm hes ha hc _ ih =>
    rcases ha with ⟨h1, h2, h3⟩ | h0
    · refine .sl es l a n cap b off vs hn hle hm hes (.inl ⟨h1, Nat.lt_of_lt_of_le h2 hg.size, (hg.keep b h2 h3).2⟩) (fun i x hx => ?_) ih
      rw [hg.cell h2 h3]; exact hc i x hx
    · subst h0
      exact .sl es [] a n cap b off vs hn hle hm hes (.inr rfl) (fun i x hx => by simp [flat] at hx) (fun i x hx => by simp [flat] at hx)
  | tup cs vs hl _ ih => exact .tup cs vs hl ih
  | fn f => exact .fn f
  | nilf => exact .nilf
  | ifc t d v _ ih => exact .ifc t d v ih
  | nili => exact .nili
  | nilp => exact .nilp
  | pc cells b off vs hb hL hc _ ih => exact .pc cells b off vs (Nat.lt_of_lt_of_le hb hg.size) (hg.keep b hb hL).2 (fun i x hx => by rw [hg.cell hb hL]; exact hc i x hx) ih

/-- A value as it stands in a slot. -/
def toD : Data → D
  | .pc cells => .cptr cells
  | x => .data x
theorem toD_ok {L : Nat → Prop} {w : World} {m : Nat → MB} {x : Data} {v : Value} (h : VD L w x v) : VV L w m (toD x) v := by
  cases h with
  | pc cells b off vs hb hL hc hv => exact .cptr cells b off vs hb hL hc hv
  | bool b => exact .data _ _ (.bool b)
  | int k n => exact .data _ _ (.int k n)
  | str s => exact .data _ _ (.str s)
  | agg cs vs hl h => exact .data _ _ (.agg cs vs hl h)
  | sl es l a n cap b off vs hn hle hm hes ha hc hv => exact .data _ _ (.sl es l a n cap b off vs hn hle hm hes ha hc hv)
  | tup cs vs hl h => exact .data _ _ (.tup cs vs hl h)
  | fn f => exact .data _ _ (.fn f)
  | nilf => exact .data _ _ .nilf
  | ifc t d v h => exact .data _ _ (.ifc t d v h)
  | nili => exact .data _ _ .nili
  | nilp => exact .data _ _ .nilp

/-- Its numbers lie below k. -/
inductive Scoped (k : Nat) : D → Prop where
  | data (x : Data) : Scoped k (.data x)
  | emp (es : Nat) : Scoped k (.emp es)
  | ref (g off len es : Nat) (h : g < k) : Scoped k (.ref g off len es)
  | ptr (g off : Nat) (h : g < k) : Scoped k (.ptr g off)
  | cptr (cells : List Data) : Scoped k (.cptr cells)
  | agg (cs : List D) (h : ∀ (i : Nat) (x : D), cs[i]? = some x → Scoped k x) : Scoped k (.agg cs)
  | fn (f : FuncId) (caps : List D) (h : ∀ (i : Nat) (x : D), caps[i]? = some x → Scoped k x) : Scoped k (.fn f caps)
  | junk : Scoped k .junk

theorem VV.mono {L L' : Nat → Prop} {w w' : World} (hg : Grow L w L' w') {m m' : Nat → MB} (hm : ∀ g, m g ≠ .res → m' g = m g) {x : D} {v : Value} (h : VV L w m x v) : VV L' w' m' x v := by
  induction h with
  | data x v h => exact .data x v (h.mono hg)
  | emp es a => exact .emp es a
  | ref g off len es b sz cap o h1 h2 h3 h4 h5 => exact .ref g off len es b sz cap o (by rw [hm g (by rw [h1]; intro e; cases e)]; exact h1) h2 h3 h4 h5
  | ref0 g es a h1 => exact .ref0 g es a (by rw [hm g (by rw [h1]; intro e; cases e)]; exact h1)
  | ptr g off b sz h1 => exact .ptr g off b sz (by rw [hm g (by rw [h1]; intro e; cases e)]; exact h1)
  | cptr cells b off vs hb hL hc hv => exact .cptr cells b off vs (Nat.lt_of_lt_of_le hb hg.size) (hg.keep b hb hL).2 (fun i x hx => by rw [hg.cell hb hL]; exact hc i x hx) (fun i x hx => (hv i x hx).mono hg)
  | agg cs vs hl _ ih => exact .agg cs vs hl ih
  | fn f caps vs hl _ ih => exact .fn f caps vs hl ih
  | junk v => exact .junk v

/-- The same, where only the numbers below k are known to stay. -/
theorem VV.mono_below {L L' : Nat → Prop} {w w' : World} (hg : Grow L w L' w') {m m' : Nat → MB} {k : Nat} (hm : ∀ g, g < k → m' g = m g) {x : D} {v : Value} (h : VV L w m x v) (hs : Scoped k x) : VV L' w' m' x v := by
  induction h with
  | data x v h => exact .data x v (h.mono hg)
  | emp es a => exact .emp es a
  | ref g off len es b sz cap o h1 h2 h3 h4 h5 => cases hs with | ref _ _ _ _ hk => exact .ref g off len es b sz cap o (by rw [hm g hk]; exact h1) h2 h3 h4 h5
  | ref0 g es a h1 => cases hs with | ref _ _ _ _ hk => exact .ref0 g es a (by rw [hm g hk]; exact h1)
  | ptr g off b sz h1 => cases hs with | ptr _ _ hk => exact .ptr g off b sz (by rw [hm g hk]; exact h1)
  | cptr cells b off vs hb hL hc hv => exact .cptr cells b off vs (Nat.lt_of_lt_of_le hb hg.size) (hg.keep b hb hL).2 (fun i x hx => by rw [hg.cell hb hL]; exact hc i x hx) (fun i x hx => (hv i x hx).mono hg)
  | agg cs vs hl _ ih => cases hs with | agg _ h => exact .agg cs vs hl fun i x v hx hv => ih i x v hx hv (h i x hx)
  | fn f caps vs hl _ ih => cases hs with | fn _ _ h => exact .fn f caps vs hl fun i x v hx hv => ih i x v hx hv (h i x hx)
  | junk v => exact .junk v

/-- A value that is met has numbers that are known. -/
theorem VV.scopd {L : Nat → Prop} {w : World} {m : Nat → MB} {k : Nat} (hm : ∀ g, k ≤ g → m g = .res) {x : D} {v : Value} (h : VV L w m x v) : Scoped k x := by
  induction h with
  | data x v h => exact .data x
  | emp es a => exact .emp es
  | ref g off len es b sz cap o h1 h2 h3 h4 h5 => exact .ref _ _ _ _ (Nat.lt_of_not_le fun hk => by rw [hm g hk] at h1; cases h1)
  | ref0 g es a h1 => exact .ref _ _ _ _ (Nat.lt_of_not_le fun hk => by rw [hm g hk] at h1; cases h1)
  | ptr g off b sz h1 => exact .ptr _ _ (Nat.lt_of_not_le fun hk => by rw [hm g hk] at h1; cases h1)
  | cptr cells b off vs hb hL hc hv => exact .cptr cells
  | agg cs vs hl _ ih =>
    exact .agg cs fun i x hx => by
      have hi : i < vs.size := by rw [← hl]; exact (List.getElem?_eq_some_iff.1 hx).1
      exact ih i x vs[i] hx (Array.getElem?_eq_getElem hi)
  | fn f caps vs hl _ ih =>
    exact .fn f caps fun i x hx => by
      have hi : i < vs.size := by rw [← hl]; exact (List.getElem?_eq_some_iff.1 hx).1
      exact ih i x vs[i] hx (Array.getElem?_eq_getElem hi)
  | junk v => exact .junk

/-- A state of the walk: what the slots hold, the call's own blocks, the next number, the first number of this call's. -/
structure St where
  env : Nat → D
  hp : Nat → Blk
  nx : Nat
  lo : Nat
  nt : Nat

def Live (L0 : Nat → Prop) (m : Nat → MB) (H : Nat → Blk) : Nat → Prop := fun b => L0 b ∨ ∃ g cells sz, H g = .blk true cells ∧ m g = .at b sz

def Glob (Γ : Nat → Option (List Data)) (L : Nat → Prop) (w : World) : Prop :=
  ∀ g cells, Γ g = some cells → VV L w (fun _ => .res) (.cptr cells) (.pointer (some ⟨g, 0, none⟩))
theorem Glob.mono {Γ : Nat → Option (List Data)} {L L' : Nat → Prop} {w w' : World} (hg : Grow L w L' w') (h : Glob Γ L w) : Glob Γ L' w' :=
  fun g cells hc => (h g cells hc).mono hg (fun _ _ => rfl)

/-- A block of the call's own, in memory. -/
def BlkAt (L : Nat → Prop) (w : World) (m : Nat → MB) (base g : Nat) (rw : Bool) (cells : List D) : Prop :=
  (m g = .nil ∧ cells = []) ∨ ∃ b sz vs ty, m g = .at b sz ∧ base ≤ b ∧ (rw = false → ¬ L b) ∧ w.heap[b]? = some (.cells vs ty (0, 0)) ∧ vs.size = sz ∧ cells.length ≤ sz ∧
    ∀ (i : Nat) (d : D), cells[i]? = some d → ∃ v, vs[i]? = some v ∧ v.oneCell' = true ∧ VV L w m d v

structure HR (L0 : Nat → Prop) (base : Nat) (m : Nat → MB) (H : Nat → Blk) (w : World) : Prop where
  blk : ∀ g rw cells, H g = .blk rw cells → BlkAt (Live L0 m H) w m base g rw cells
  inj : ∀ g g' cells rw' cells' b sz sz', H g = .blk true cells → H g' = .blk rw' cells' → m g = .at b sz → m g' = .at b sz' → g = g'

/-- How a state of the walk stands to the model's. -/
structure Rel (Γ : Nat → Option (List Data)) (L0 : Nat → Prop) (w0 : World) (m : Nat → MB) (s : St) (a : Act) (w : World) : Prop where
  defers : a.defers = []
  vals : ∀ t, VV (Live L0 m s.hp) w m (s.env t) (a.tmps.getD t undef)
  heap : HR L0 w0.heap.size m s.hp w
  res : ∀ g, s.nx ≤ g → m g = .res
  dead : ∀ g, s.nx ≤ g → s.hp g = .dead
  below : Below w0.heap.size w0 w
  l0 : ∀ b, L0 b → b < w0.heap.size
  glob : Glob Γ (Live L0 m s.hp) w
  lo : s.lo ≤ s.nx
  slots : a.tmps.size = s.nt

theorem Rel.size {Γ : Nat → Option (List Data)} {L0 : Nat → Prop} {w0 : World} {m : Nat → MB} {s : St} {a : Act} {w : World} (h : Rel Γ L0 w0 m s a w) : w0.heap.size ≤ w.heap.size := h.below.size

def Env.set (e : Nat → D) (t : Nat) (d : D) : Nat → D := fun j => if j = t then d else e j
def Env.dst (e : Nat → D) (t : Option Nat) (d : D) : Nat → D := match t with
  | some t => Env.set e t d
  | none => e
def Hp.set (H : Nat → Blk) (g : Nat) (b : Blk) : Nat → Blk := fun j => if j = g then b else H j
def Hp.upd (H : Nat → Blk) : List (Nat × Blk) → Nat → Blk
  | [] => H
  | (g, b) :: l => Hp.upd (Hp.set H g b) l

end Go.Proofs.YtlfmgellojjndaaDoor
