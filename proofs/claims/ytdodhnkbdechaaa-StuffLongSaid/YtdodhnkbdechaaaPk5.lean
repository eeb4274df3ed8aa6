/- What the walk's simp goes by. -/
import Derived.Test.YtdodhnkbdechaaaPk4
namespace Go.Proofs.Ytdodhnkbdechaaa
open Go.RowKit
set_option linter.unusedVariables false
set_option linter.unusedSimpArgs false

/-- It makes a congruence a step of its own: what the congruence leaves out is not visited. -/
@[irreducible] def tick : Nat := 0
@[go_sem] theorem tick_eq : tick = 0 := Nat.le_antisymm (by unfold tick; exact Nat.le_refl _) (Nat.zero_le _)

@[go_sem] theorem stepSt_eq (e : Nat → D) (H : Nat → Blk) (nx lo nt : Nat) (o : Oper) (d : D) (u : List (Nat × Blk)) : stepSt ⟨e, H, nx, lo, nt⟩ o d u = ⟨Env.dst e o.dst d, Hp.upd H u, nx + 1, lo, nt⟩ := rfl
@[go_sem] theorem dst_some (e : Nat → D) (t : Nat) (d : D) : Env.dst e (some t) d = Env.set e t d := rfl
@[go_sem] theorem dst_none (e : Nat → D) (d : D) : Env.dst e none d = e := rfl
@[go_sem] theorem set_get (e : Nat → D) (t j : Nat) (d : D) : Env.set e t d j = if j = t then d else e j := rfl
@[go_sem] theorem hset_get (H : Nat → Blk) (t j : Nat) (b : Blk) : Hp.set H t b j = if j = t then b else H j := rfl
@[go_sem] theorem hset_hset (H : Nat → Blk) (t : Nat) (b c : Blk) : Hp.set (Hp.set H t b) t c = Hp.set H t c := by
  funext j
  unfold Hp.set
  split <;> rfl
@[go_sem] theorem upd_nil (H : Nat → Blk) : Hp.upd H [] = H := rfl
@[go_sem] theorem upd_cons (H : Nat → Blk) (g : Nat) (b : Blk) (l : List (Nat × Blk)) : Hp.upd H ((g, b) :: l) = Hp.upd (Hp.set H g b) l := rfl
@[go_sem] theorem ifW_true (x y : Prop) : ifW true x y = x := rfl
@[go_sem] theorem ifW_false (x y : Prop) : ifW false x y = y := rfl
@[congr] theorem ifW_congr {n0 : Nat} (tk : tick = n0) {b b' : Bool} (x y : Prop) (h : b = b') : ifW b x y = ifW b' x y := by rw [h]
@[congr] theorem callK_congr {n0 : Nat} (tk : tick = n0) (P : Program) (Γ : Nat → Option (List Data)) (f : FuncId) {ds ds' : List D} (h : ds = ds') (H : Nat → Blk) (K : D → List Nat → List (Nat × Blk) → Prop) : callK P Γ f ds H K = callK P Γ f ds' H K := by rw [h]
@[congr] theorem DC_congr {n0 : Nat} (tk : tick = n0) (P : Program) (Γ : Nat → Option (List Data)) (f : FuncId) {ds ds' : List D} (h : ds = ds') {H H' : Nat → Blk} (hH : H = H') {nx nx' : Nat} (hn : nx = nx') (K : D → (Nat → Blk) → Nat → Prop) : DC P Γ f ds H nx K = DC P Γ f ds' H' nx' K := by rw [h, hH, hn]
@[congr] theorem eqK_congr {n0 : Nat} (tk : tick = n0) (P : Program) (t : TypeId) {x x' y y' : Data} (hx : x = x') (hy : y = y') (K : Bool → Prop) : eqK P t x y K = eqK P t x' y' K := by rw [hx, hy]
@[congr] theorem LoopW_congr {n0 : Nat} (tk : tick = n0) (body : (Exit → St → Prop) → St → Prop) (Q : Exit → St → Prop) {s s' : St} (h : s = s') : LoopW body Q s = LoopW body Q s' := by rw [h]
@[congr] theorem drawOk2_congr {n0 : Nat} (tk : tick = n0) (ops : Array Oper) (tr : List Tr) (a b : Nat) : drawOk2 ops tr a b = drawOk2 ops tr a b := rfl
@[congr] theorem effC_congr {n0 : Nat} (tk : tick = n0) (P : Program) (Γ : Nat → Option (List Data)) (f : FuncId) {ds ds' : List D} (h : ds = ds') (H : Nat → Blk) (fr : Nat) (K : D → List Nat → List (Nat × Blk) → Nat → Prop) : effC P Γ f ds H fr K = effC P Γ f ds' H fr K := by rw [h]
@[congr] theorem drawOk_congr {n0 : Nat} (tk : tick = n0) (ops : Array Oper) (tr : List Tr) : drawOk ops tr = drawOk ops tr := rfl
@[congr] theorem PC_congr {n0 : Nat} (tk : tick = n0) (P : Program) (Γ : Nat → Option (List Data)) (f : FuncId) (xs : List Data) (r : Data) : PC P Γ f xs r = PC P Γ f xs r := rfl

@[go_sem] theorem allData_nil : allData [] = some [] := rfl
@[go_sem] theorem allData_data (x : Data) (l : List D) : allData (.data x :: l) = (allData l).map (x :: ·) := rfl
@[go_sem] theorem allData_fn (f : FuncId) (c : List D) (l : List D) : allData (.fn f c :: l) = none := rfl
@[go_sem] theorem allData_ref (g o n s : Nat) (l : List D) : allData (.ref g o n s :: l) = none := rfl
@[go_sem] theorem allData_emp (s : Nat) (l : List D) : allData (.emp s :: l) = none := rfl
@[go_sem] theorem allData_ptr (g o : Nat) (l : List D) : allData (.ptr g o :: l) = none := rfl
@[go_sem] theorem allData_junk (l : List D) : allData (.junk :: l) = none := rfl
@[go_sem] theorem allData_map (l : List Data) : allData (l.map D.data) = some l := by
  induction l with
  | nil => rfl
  | cons x l ih => simp [allData, ih]
@[go_sem] theorem allData_take (n : Nat) (l : List Data) : allData ((l.map D.data).take n) = some (l.take n) := by rw [← List.map_take, allData_map]
@[go_sem] theorem allData_drop (n : Nat) (l : List Data) : allData ((l.map D.data).drop n) = some (l.drop n) := by rw [← List.map_drop, allData_map]
@[go_sem] theorem allData_dropt (n k : Nat) (l : List Data) : allData (((l.map D.data).drop k).take n) = some ((l.drop k).take n) := by rw [← List.map_drop, ← List.map_take, allData_map]
@[go_sem] theorem dcells_agg (cs : List Data) : D.cells (.data (.agg cs)) = cs.map .data := rfl
@[go_sem] theorem dcells_int (k : IntKind) (n : Int) : D.cells (.data (.int k n)) = [.data (.int k n)] := rfl
@[go_sem] theorem dcells_bool (b : Bool) : D.cells (.data (.bool b)) = [.data (.bool b)] := rfl
@[go_sem] theorem dcells_str (b : ByteArray) : D.cells (.data (.str b)) = [.data (.str b)] := rfl
@[go_sem] theorem dcells_sl (n : Nat) (l : List Data) : D.cells (.data (.sl n l)) = [.data (.sl n l)] := rfl
@[go_sem] theorem dcells_nilf : D.cells (.data .nilf) = [.data .nilf] := rfl
@[go_sem] theorem dcells_nili : D.cells (.data .nili) = [.data .nili] := rfl
@[go_sem] theorem dcells_nilp : D.cells (.data .nilp) = [.data .nilp] := rfl
@[go_sem] theorem dcells_nilm : D.cells (.data .nilm) = [.data .nilm] := rfl
@[go_sem] theorem dcells_ifc (t : TypeId) (d : Data) : D.cells (.data (.ifc t d)) = [.data (.ifc t d)] := rfl
@[go_sem] theorem dcells_dfn (f : FuncId) (c : List Data) : D.cells (.data (.fn f c)) = [.data (.fn f c)] := rfl
@[go_sem] theorem dcells_dmp (ks xs : List Data) : D.cells (.data (.mp ks xs)) = [.data (.mp ks xs)] := rfl
@[go_sem] theorem dcells_ful (s : Nat) (l : List Data) : D.cells (.ful s l) = [.ful s l] := rfl
@[go_sem] theorem dcells_cut (g o n c s : Nat) : D.cells (.cut g o n c s) = [.cut g o n c s] := rfl
@[go_sem] theorem dcells_bnd (f : FuncId) (r : D) : D.cells (.bnd f r) = [.bnd f r] := rfl
@[go_sem] theorem dcell_bnd (f : FuncId) (r : D) : D.cell (.bnd f r) = true := rfl
@[go_sem] theorem allData_bnd (f : FuncId) (r : D) (l : List D) : allData (.bnd f r :: l) = none := rfl
@[go_sem] theorem dcells_mref (g : Nat) : D.cells (.mref g) = [.mref g] := rfl
@[go_sem] theorem dcell_mref (g : Nat) : D.cell (.mref g) = true := rfl
@[go_sem] theorem dcell_ful (s : Nat) (l : List Data) : D.cell (.ful s l) = true := rfl
@[go_sem] theorem dcell_cut (g o n c s : Nat) : D.cell (.cut g o n c s) = true := rfl
@[go_sem] theorem allData_ful (s : Nat) (x : List Data) (l : List D) : allData (.ful s x :: l) = none := rfl
@[go_sem] theorem allData_cut (g o n c s : Nat) (l : List D) : allData (.cut g o n c s :: l) = none := rfl
@[go_sem] theorem allData_mref (g : Nat) (l : List D) : allData (.mref g :: l) = none := rfl
@[go_sem] theorem allData_agg (c : List D) (l : List D) : allData (.agg c :: l) = none := rfl
@[go_sem] theorem allData_cptr (c : List Data) (l : List D) : allData (.cptr c :: l) = none := rfl
@[go_sem] theorem dcells_emp (n : Nat) : D.cells (.emp n) = [.emp n] := rfl
@[go_sem] theorem dcells_ref (g o n s : Nat) : D.cells (.ref g o n s) = [.ref g o n s] := rfl
@[go_sem] theorem dcells_ptr (g o : Nat) : D.cells (.ptr g o) = [.ptr g o] := rfl
@[go_sem] theorem dcells_fn (f : FuncId) (c : List D) : D.cells (.fn f c) = [.fn f c] := rfl
@[go_sem] theorem dcells_dagg (cs : List D) : D.cells (.agg cs) = cs := rfl
@[go_sem] theorem cells_agg (cs : List Data) : Data.cells (.agg cs) = cs := rfl
@[go_sem] theorem cells_int (k : IntKind) (n : Int) : Data.cells (.int k n) = [.int k n] := rfl
@[go_sem] theorem cells_bool (b : Bool) : Data.cells (.bool b) = [.bool b] := rfl
@[go_sem] theorem cells_str (b : ByteArray) : Data.cells (.str b) = [.str b] := rfl
@[go_sem] theorem cells_sl (n : Nat) (l : List Data) : Data.cells (.sl n l) = [.sl n l] := rfl
@[go_sem] theorem dcell_data (x : Data) : D.cell (.data x) = x.cell := rfl
@[go_sem] theorem dcell_ref (g o n s : Nat) : D.cell (.ref g o n s) = true := rfl
@[go_sem] theorem dcell_ptr (g o : Nat) : D.cell (.ptr g o) = true := rfl
@[go_sem] theorem dcell_emp (n : Nat) : D.cell (.emp n) = true := rfl
@[go_sem] theorem dcell_fn (f : FuncId) (c : List D) : D.cell (.fn f c) = true := rfl
@[go_sem] theorem cell_int (k : IntKind) (n : Int) : Data.cell (.int k n) = true := rfl
@[go_sem] theorem cell_bool (b : Bool) : Data.cell (.bool b) = true := rfl
@[go_sem] theorem cell_str (b : ByteArray) : Data.cell (.str b) = true := rfl
@[go_sem] theorem cell_sl (n : Nat) (l : List Data) : Data.cell (.sl n l) = true := rfl
@[go_sem] theorem cell_nilf : Data.cell .nilf = true := rfl
@[go_sem] theorem cell_nili : Data.cell .nili = true := rfl
@[go_sem] theorem cell_nilp : Data.cell .nilp = true := rfl
@[go_sem] theorem cell_nilm : Data.cell .nilm = true := rfl
@[go_sem] theorem cell_fn (f : FuncId) (c : List Data) : Data.cell (.fn f c) = true := rfl
@[go_sem] theorem cell_mp (ks xs : List Data) : Data.cell (.mp ks xs) = true := rfl
@[go_sem] theorem cell_pc (c : List Data) : Data.cell (.pc c) = true := rfl
@[go_sem] theorem cell_ifc (t : TypeId) (d : Data) : Data.cell (.ifc t d) = true := rfl
@[go_sem] theorem over_one (cells : List D) (off : Nat) (d : D) : over cells off [d] = cells.set off d := rfl
@[go_sem] theorem over_nil (cells : List D) (off : Nat) : over cells off [] = cells := by simp [over]
@[go_sem] theorem over_two (cells : List D) (off : Nat) (a b : D) (vs : List D) : over cells off (a :: b :: vs) = cells.take off ++ (a :: b :: vs) ++ cells.drop (off + (a :: b :: vs).length) := rfl
@[go_sem] theorem over_map (cells : List D) (l : List Data) (h : l.length = cells.length) : over cells 0 (l.map .data) = l.map .data := by
  unfold over
  split
  · rename_i d hd
    have : cells.length = 1 := by rw [← h]; have := congrArg List.length hd; simpa using this
    match cells, this with
    | [c], _ => rw [hd]; rfl
  · simp [h]

@[go_sem] theorem frzL_nil (ok : Bool) (H : Nat → Blk) (xs : List Data) : FrzL ok H [] xs ↔ xs = [] := by
  constructor
  · rintro ⟨h, _⟩; exact List.eq_nil_of_length_eq_zero h.symm
  · rintro rfl; exact ⟨rfl, fun i d x h => by simp at h⟩
@[go_sem] theorem frzL_cons (ok : Bool) (H : Nat → Blk) (d : D) (ds : List D) (xs : List Data) : FrzL ok H (d :: ds) xs ↔ ∃ y ys, xs = y :: ys ∧ Frz ok H d y ∧ FrzL ok H ds ys := by
  constructor
  · rintro ⟨h, hh⟩
    cases xs with
    | nil => simp at h
    | cons y ys => exact ⟨y, ys, rfl, hh 0 d y rfl rfl, by simpa using h, fun i d x h1 h2 => hh (i + 1) d x (by simpa using h1) (by simpa using h2)⟩
  · rintro ⟨y, ys, rfl, h1, h2, h3⟩
    refine ⟨by simp [h2], fun i d' x h4 h5 => ?_⟩
    match i with
    | 0 => simp at h4 h5; subst h4; subst h5; exact h1
    | i + 1 => exact h3 i d' x (by simpa using h4) (by simpa using h5)
@[go_sem] theorem frz_data (ok : Bool) (H : Nat → Blk) (x y : Data) : Frz ok H (.data x) y ↔ y = x := by
  constructor
  · intro h; cases h; rfl
  · rintro rfl; exact .data _
@[go_sem] theorem frz_cptr (ok : Bool) (H : Nat → Blk) (c : List Data) (y : Data) : Frz ok H (.cptr c) y ↔ y = .pc c := by
  constructor
  · intro h; cases h; rfl
  · rintro rfl; exact .cptr _
@[go_sem] theorem frz_fn (ok : Bool) (H : Nat → Blk) (f : FuncId) (c : List D) (y : Data) : Frz ok H (.fn f c) y ↔ ∃ xs, y = .fn f xs ∧ FrzL ok H c xs := by
  constructor
  · intro h; cases h with | fn _ _ xs hl hh => exact ⟨xs, rfl, hl, hh⟩
  · rintro ⟨xs, rfl, hl, hh⟩; exact .fn f c xs hl hh
/-- A pointer into a block of which the cells are read out. -/
theorem frz_ptrL {ok : Bool} {H : Nat → Blk} {g off : Nat} {rw : Bool} {cells : List D} {l : List Data} (hg : H g = .blk rw cells) (hrw : ok = true ∨ rw = false) (h : FrzL ok H ((cells.drop off).take l.length) l) : Frz ok H (.ptr g off) (.pc l) := by
  obtain ⟨h1, h2⟩ := h
  have key : ∀ i, i < l.length → cells[off + i]? = ((cells.drop off).take l.length)[i]? := fun i hi => by rw [List.getElem?_take, if_pos hi, List.getElem?_drop]
  refine .ptr g off rw cells l (fun i => (cells[off + i]?).getD .junk) hg hrw (fun i x hx => ?_) (fun i x hx => ?_)
  · have hi := (List.getElem?_eq_some_iff.1 hx).1
    rw [key i hi]
    have : i < ((cells.drop off).take l.length).length := by omega
    simp [List.getElem?_eq_getElem this]
  · have hi := (List.getElem?_eq_some_iff.1 hx).1
    have h3 : i < ((cells.drop off).take l.length).length := by omega
    rw [key i hi, List.getElem?_eq_getElem h3]
    exact h2 i _ x (List.getElem?_eq_getElem h3) hx
@[go_sem] theorem toD_pc (c : List Data) : toD (.pc c) = .cptr c := rfl
@[go_sem] theorem toD_int (k : IntKind) (n : Int) : toD (.int k n) = .data (.int k n) := rfl
@[go_sem] theorem toD_bool (b : Bool) : toD (.bool b) = .data (.bool b) := rfl
@[go_sem] theorem toD_str (b : ByteArray) : toD (.str b) = .data (.str b) := rfl
@[go_sem] theorem toD_sl (n : Nat) (l : List Data) : toD (.sl n l) = .data (.sl n l) := rfl
@[go_sem] theorem toD_agg (l : List Data) : toD (.agg l) = .data (.agg l) := rfl
@[go_sem] theorem toD_nilf : toD .nilf = .data .nilf := rfl
@[go_sem] theorem toD_nili : toD .nili = .data .nili := rfl
@[go_sem] theorem toD_nilp : toD .nilp = .data .nilp := rfl
@[go_sem] theorem toD_nilm : toD .nilm = .data .nilm := rfl
@[go_sem] theorem toD_fn (f : FuncId) (c : List Data) : toD (.fn f c) = .data (.fn f c) := rfl
@[go_sem] theorem toD_mp (ks xs : List Data) : toD (.mp ks xs) = .data (.mp ks xs) := rfl
@[go_sem] theorem toD_tup (c : List Data) : toD (.tup c) = .data (.tup c) := rfl
@[go_sem] theorem toD_ifc (t : TypeId) (d : Data) : toD (.ifc t d) = .data (.ifc t d) := rfl
@[go_sem] theorem dcell_cptr (c : List Data) : D.cell (.cptr c) = true := rfl
@[go_sem] theorem dcells_cptr (c : List Data) : D.cells (.cptr c) = [.cptr c] := rfl
@[go_sem] theorem tupD_one (x : Data) : tupD [x] = x := rfl
@[go_sem] theorem tupD_two (x y : Data) (l : List Data) : tupD (x :: y :: l) = .tup (x :: y :: l) := rfl
@[go_sem] theorem tupD_nil : tupD [] = .tup [] := rfl
@[go_sem] theorem envArgs_zero (d : D) (l : List D) : envArgs (d :: l) 0 = d := rfl
@[go_sem] theorem envArgs_succ (d : D) (l : List D) (t : Nat) : envArgs (d :: l) (t + 1) = envArgs l t := rfl
@[go_sem] theorem envArgs_nil (t : Nat) : envArgs [] t = undefD := rfl

/- Combinators: the walk looks at what they hang on, and at nothing else. -/
def blkK (b : Blk) (K : Bool → List D → Prop) : Prop := match b with
  | .blk rw cells => K rw cells
  | _ => False
/-- A map of the call's own. -/
def mapK (b : Blk) (K : List Data → List D → Prop) : Prop := match b with
  | .obj (.mp ks xs) => K ks xs
  | _ => False
def itrK (b : Blk) (K : List Data → List Data → List Nat → Option Nat → Prop) : Prop := match b with
  | .obj (.it ks xs left cur) => K ks xs left cur
  | _ => False
/-- Where a key stands, or not. -/
def fndK (o : Option (Option Nat)) (f : Nat → Prop) (n : Prop) : Prop := match o with
  | some (some i) => f i
  | some none => n
  | none => False
def dataK (d : D) (K : Data → Prop) : Prop := match d with
  | .data x => K x
  | _ => False
@[go_sem] theorem blkK_obj (o : Ob) (K : Bool → List D → Prop) : blkK (.obj o) K = False := rfl
@[go_sem] theorem mapK_mp (ks : List Data) (xs : List D) (K : List Data → List D → Prop) : mapK (.obj (.mp ks xs)) K = K ks xs := rfl
@[go_sem] theorem itrK_it (ks xs : List Data) (left : List Nat) (cur : Option Nat) (K : List Data → List Data → List Nat → Option Nat → Prop) : itrK (.obj (.it ks xs left cur)) K = K ks xs left cur := rfl
@[go_sem] theorem fndK_some (i : Nat) (f : Nat → Prop) (n : Prop) : fndK (some (some i)) f n = f i := rfl
@[go_sem] theorem fndK_none (f : Nat → Prop) (n : Prop) : fndK (some none) f n = n := rfl
@[go_sem] theorem dataK_data (x : Data) (K : Data → Prop) : dataK (.data x) K = K x := rfl
@[congr] theorem mapK_congr {n0 : Nat} (tk : tick = n0) {b b' : Blk} (h : b = b') (K : List Data → List D → Prop) : mapK b K = mapK b' K := by rw [h]
@[congr] theorem itrK_congr {n0 : Nat} (tk : tick = n0) {b b' : Blk} (h : b = b') (K : List Data → List Data → List Nat → Option Nat → Prop) : itrK b K = itrK b' K := by rw [h]
@[congr] theorem fndK_congr {n0 : Nat} (tk : tick = n0) {o o' : Option (Option Nat)} (h : o = o') (f : Nat → Prop) (n : Prop) : fndK o f n = fndK o' f n := by rw [h]
@[congr] theorem dataK_congr {n0 : Nat} (tk : tick = n0) {d d' : D} (h : d = d') (K : Data → Prop) : dataK d K = dataK d' K := by rw [h]
def aggK (o : Option Bool) (x y : Prop) : Prop := match o with
  | some true => x
  | some false => y
  | none => False
def someK {α : Type} (o : Option α) (K : α → Prop) : Prop := match o with
  | some x => K x
  | none => False
def optK {α : Type} (o : Option α) (K : α → Prop) (n : Prop) : Prop := match o with
  | some x => K x
  | none => n
def sideK (p q : Prop) : Prop := p ∧ q
def putK (d : D) (K : D → Prop) : Prop := K d
def cellsK (d : List D) (K : List D → Prop) : Prop := K d
def natK (d : Nat) (K : Nat → Prop) : Prop := K d
@[go_sem] theorem blkK_blk (rw : Bool) (c : List D) (K : Bool → List D → Prop) : blkK (.blk rw c) K = K rw c := rfl
@[go_sem] theorem blkK_dead (K : Bool → List D → Prop) : blkK .dead K = False := rfl
@[go_sem] theorem aggK_true (x y : Prop) : aggK (some true) x y = x := rfl
@[go_sem] theorem aggK_false (x y : Prop) : aggK (some false) x y = y := rfl
@[go_sem] theorem someK_some {α : Type} (x : α) (K : α → Prop) : someK (some x) K = K x := rfl
@[go_sem] theorem someK_none {α : Type} (K : α → Prop) : someK none K = False := rfl
@[go_sem] theorem optK_some {α : Type} (x : α) (K : α → Prop) (n : Prop) : optK (some x) K n = K x := rfl
@[go_sem] theorem optK_none {α : Type} (K : α → Prop) (n : Prop) : optK none K n = n := rfl
@[go_sem] theorem sideK_true (q : Prop) : sideK True q = q := by simp [sideK]
@[go_sem] theorem sideK_of {p : Prop} (q : Prop) (h : p) : sideK p q = q := by simp [sideK, h]
@[go_sem] theorem putK_eq (d : D) (K : D → Prop) : putK d K = K d := rfl
@[go_sem] theorem cellsK_eq (d : List D) (K : List D → Prop) : cellsK d K = K d := rfl
@[go_sem] theorem natK_eq (d : Nat) (K : Nat → Prop) : natK d K = K d := rfl
@[congr] theorem blkK_congr {n0 : Nat} (tk : tick = n0) {b b' : Blk} (h : b = b') (K : Bool → List D → Prop) : blkK b K = blkK b' K := by rw [h]
@[congr] theorem aggK_congr {n0 : Nat} (tk : tick = n0) {b b' : Option Bool} (h : b = b') (x y : Prop) : aggK b x y = aggK b' x y := by rw [h]
@[congr] theorem someK_congr {n0 : Nat} (tk : tick = n0) {α : Type} {b b' : Option α} (h : b = b') (K : α → Prop) : someK b K = someK b' K := by rw [h]
@[congr] theorem optK_congr {n0 : Nat} (tk : tick = n0) {α : Type} {b b' : Option α} (h : b = b') (K : α → Prop) (n : Prop) : optK b K n = optK b' K n := by rw [h]
@[congr] theorem sideK_congr {n0 : Nat} (tk : tick = n0) {p p' : Prop} (h : p = p') (q : Prop) : sideK p q = sideK p' q := by rw [h]
@[congr] theorem putK_congr {n0 : Nat} (tk : tick = n0) {d d' : D} (h : d = d') (K : D → Prop) : putK d K = putK d' K := by rw [h]
@[congr] theorem cellsK_congr {n0 : Nat} (tk : tick = n0) {d d' : List D} (h : d = d') (K : List D → Prop) : cellsK d K = cellsK d' K := by rw [h]
@[congr] theorem natK_congr {n0 : Nat} (tk : tick = n0) {d d' : Nat} (h : d = d') (K : Nat → Prop) : natK d K = natK d' K := by rw [h]

/- Bits. -/
def andI (k : IntKind) (a b : Int) : Int := k.wrap (BitVec.ofInt k.bits a &&& BitVec.ofInt k.bits b).toNat
def orI (k : IntKind) (a b : Int) : Int := k.wrap (BitVec.ofInt k.bits a ||| BitVec.ofInt k.bits b).toNat
def xorI (k : IntKind) (a b : Int) : Int := k.wrap (BitVec.ofInt k.bits a ^^^ BitVec.ofInt k.bits b).toNat
def andNotI (k : IntKind) (a b : Int) : Int := k.wrap (BitVec.ofInt k.bits a &&& ~~~(BitVec.ofInt k.bits b)).toNat
def notI (k : IntKind) (n : Int) : Int := k.wrap (BitVec.ofInt k.bits (if k.signed then -1 else k.max) ^^^ BitVec.ofInt k.bits n).toNat

section
variable (P : Program) (Γ : Nat → Option (List Data))
@[go_sem] theorem evalD_tmp (e : Nat → D) (t : Nat) : evalD Γ e (.tmp t) = e t := rfl
@[go_sem] theorem evalD_const (e : Nat → D) (v : Value) : evalD Γ e (.const v) = cD v := rfl
@[go_sem] theorem evalD_func (e : Nat → D) (f : FuncId) : evalD Γ e (.func f) = .data (.fn f []) := rfl
theorem evalD_global (e : Nat → D) {g : Nat} {cells : List Data} (h : Γ g = some cells) : evalD Γ e (.global g) = .cptr cells := by simp [evalD, h]
@[go_sem] theorem cD_bool (b : Bool) : cD (.bool b) = .data (.bool b) := rfl
@[go_sem] theorem cD_int (k : IntKind) (n : Int) : cD (.int k n) = .data (.int k n) := rfl
@[go_sem] theorem cD_str (s : ByteArray) : cD (.string s) = .data (.str s) := rfl
@[go_sem] theorem cD_slice : cD (.slice none 0 0) = .emp 0 := rfl
@[go_sem] theorem cD_ptr : cD (.pointer none) = .data .nilp := rfl
@[go_sem] theorem cD_map : cD (.map none) = .data .nilm := rfl
@[go_sem] theorem cD_nili : cD .nilIface = .data .nili := rfl
@[go_sem] theorem cD_nilf : cD .nilFunc = .data .nilf := rfl
@[go_sem] theorem coe_data (t : TypeId) (x : Data) : coe P t (.data x) = .data x := rfl
@[go_sem] theorem coe_ref (t : TypeId) (g o n s : Nat) : coe P t (.ref g o n s) = .ref g o n s := rfl
@[go_sem] theorem coe_ptr (t : TypeId) (g o : Nat) : coe P t (.ptr g o) = .ptr g o := rfl
@[go_sem] theorem coe_cptr (t : TypeId) (c : List Data) : coe P t (.cptr c) = .cptr c := rfl
@[go_sem] theorem coe_agg (t : TypeId) (c : List D) : coe P t (.agg c) = .agg c := rfl
@[go_sem] theorem coe_fn (t : TypeId) (f : FuncId) (c : List D) : coe P t (.fn f c) = .fn f c := rfl
@[go_sem] theorem coe_junk (t : TypeId) : coe P t .junk = .junk := rfl
@[go_sem] theorem coe_ful (t : TypeId) (s : Nat) (l : List Data) : coe P t (.ful s l) = .ful s l := rfl
@[go_sem] theorem coe_cut (t : TypeId) (g o n c s : Nat) : coe P t (.cut g o n c s) = .cut g o n c s := rfl
@[go_sem] theorem coe_bnd (t : TypeId) (f : FuncId) (r : D) : coe P t (.bnd f r) = .bnd f r := rfl
@[go_sem] theorem coe_mref (t : TypeId) (g : Nat) : coe P t (.mref g) = .mref g := rfl
@[go_sem] theorem coe_iref (t : TypeId) (g : Nat) : coe P t (.iref g) = .iref g := rfl
theorem coe_emp' (t : TypeId) (n : Nat) {e s : Nat} (h : sliceT P t = some e) (h2 : szT P e = some s) : coe P t (.emp n) = .emp s := by simp [coe, h, h2]
@[go_sem] theorem coe_emp (t : TypeId) (n : Nat) : coe P t (.emp n) = .emp (((sliceT P t).bind (szT P)).getD n) := by
  unfold coe
  cases h : sliceT P t with
  | none => rfl
  | some e => cases h2 : szT P e <;> simp [h2]
@[go_sem] theorem boolD_eq (b : Bool) : boolD b = .data (.bool b) := rfl
@[go_sem] theorem intD_eq (k : IntKind) (n : Int) : intD k n = .data (.int k n) := rfl
@[go_sem] theorem undefD_eq : undefD = .data (.tup []) := rfl
@[go_sem] theorem mkAgg_eq (cs : List D) : mkAgg cs = (match allData cs with | some xs => .data (.agg xs) | none => .agg cs) := rfl
@[go_sem] theorem dstOk_some (t : Nat) (op : Op) (ty : TypeId) (pos : String) (af : Array Edge) (g : Option (Nat × Bool)) (nt : Nat) : dstOk ⟨some t, op, ty, pos, af, g⟩ nt = decide (t < nt) := rfl
@[go_sem] theorem dstOk_none (op : Op) (ty : TypeId) (pos : String) (af : Array Edge) (g : Option (Nat × Bool)) (nt : Nat) : dstOk ⟨none, op, ty, pos, af, g⟩ nt = true := rfl
@[go_sem] theorem wanted_none (ops : Array Oper) (e : Nat → D) (dst : Option Nat) (op : Op) (ty : TypeId) (pos : String) (af : Array Edge) : wantedD ops e ⟨dst, op, ty, pos, af, none⟩ = some true := rfl
/-- What a guard's slot says. -/
def slotB (want : Bool) (d : D) : Option Bool := match d with
  | .data (.bool b) => some (b == want)
  | .data (.tup []) => some false
  | _ => none
@[go_sem] theorem slotB_bool (want b : Bool) : slotB want (.data (.bool b)) = some (b == want) := rfl
@[go_sem] theorem slotB_undef (want : Bool) : slotB want (.data (.tup [])) = some false := rfl
@[go_sem] theorem wanted_some (ops : Array Oper) (e : Nat → D) (dst : Option Nat) (op : Op) (ty : TypeId) (pos : String) (af : Array Edge) (j : Nat) (want : Bool) : wantedD ops e ⟨dst, op, ty, pos, af, some (j, want)⟩ = (match (ops[j]?).bind (·.dst) with | some t => slotB want (e t) | none => some false) := by
  unfold wantedD
  simp only
  cases (ops[j]?).bind (·.dst) <;> rfl
@[congr] theorem wanted_congr' {n0 : Nat} (tk : tick = n0) (ops : Array Oper) (e : Nat → D) (o : Oper) : wantedD ops e o = wantedD ops e o := rfl

@[go_sem] theorem opsW_nil (ops : Array Oper) (s : St) (K : St → Prop) : opsW P Γ ops [] s K = K s := rfl
@[go_sem] theorem opsW_cons (ops : Array Oper) (o : Oper) (rest : List Oper) (e : Nat → D) (H : Nat → Blk) (nx lo nt : Nat) (K : St → Prop) : opsW P Γ ops (o :: rest) ⟨e, H, nx, lo, nt⟩ K =
    sideK (dstOk o nt = true) (someK (wantedD ops e o) fun b => ifW b (ifW (isCall o)
        ((opK P Γ o e H nx fun d _ u => opsW P Γ ops rest ⟨Env.dst e o.dst d, Hp.upd H u, nx + 1, lo, nt⟩ K) ∨ dcK P Γ o e H nx fun d H' nx' => opsW P Γ ops rest ⟨Env.dst e o.dst d, H', nx', lo, nt⟩ K)
        (opK P Γ o e H nx fun d _ u => opsW P Γ ops rest ⟨Env.dst e o.dst d, Hp.upd H u, nx + 1, lo, nt⟩ K)) (opsW P Γ ops rest ⟨Env.dst e o.dst undefD, H, nx + 1, lo, nt⟩ K)) := by
  unfold sideK someK
  rw [opsW]
  congr 1
  simp only
  cases wantedD ops e o <;> rfl
@[go_sem] theorem drawW_nil (ops : Array Oper) (s : St) (tr : List Tr) (K : St → List Tr → Prop) : drawW P Γ ops [] s tr K = K s tr.reverse := rfl
@[go_sem] theorem drawW_cons (ops : Array Oper) (o : Oper) (rest : List Oper) (e : Nat → D) (H : Nat → Blk) (nx lo nt : Nat) (tr : List Tr) (K : St → List Tr → Prop) : drawW P Γ ops (o :: rest) ⟨e, H, nx, lo, nt⟩ tr K =
    sideK (dstOk o nt = true) (someK (wantedD ops e o) fun b => ifW b (ifW (isCall o) ((opK P Γ o e H nx fun d rd u => drawW P Γ ops rest ⟨Env.dst e o.dst d, Hp.upd H u, nx + 1, lo, nt⟩ (⟨rd, u.map (·.1)⟩ :: tr) K) ∨
        effK P Γ o e H nx fun d rd u k => drawW P Γ ops rest ⟨Env.dst e o.dst d, Hp.upd H u, nx + k, lo, nt⟩ (⟨rd, u.map (·.1)⟩ :: tr) K)
        (opK P Γ o e H nx fun d rd u => drawW P Γ ops rest ⟨Env.dst e o.dst d, Hp.upd H u, nx + 1, lo, nt⟩ (⟨rd, u.map (·.1)⟩ :: tr) K))
      (drawW P Γ ops rest ⟨Env.dst e o.dst undefD, H, nx + 1, lo, nt⟩ (⟨[], []⟩ :: tr) K)) := by
  unfold sideK someK
  rw [drawW]
  congr 1
  simp only
  cases wantedD ops e o <;> rfl
@[congr] theorem opsW_congr {n0 : Nat} (tk : tick = n0) (ops : Array Oper) (l : List Oper) (s : St) (K : St → Prop) : opsW P Γ ops l s K = opsW P Γ ops l s K := rfl
@[congr] theorem drawW_congr {n0 : Nat} (tk : tick = n0) (ops : Array Oper) (l : List Oper) (s : St) (tr : List Tr) (K : St → List Tr → Prop) : drawW P Γ ops l s tr K = drawW P Γ ops l s tr K := rfl
@[congr] theorem opK_congr' {n0 : Nat} (tk : tick = n0) (o : Oper) (e : Nat → D) (H : Nat → Blk) (fr : Nat) (K : D → List Nat → List (Nat × Blk) → Prop) : opK P Γ o e H fr K = opK P Γ o e H fr K := rfl
@[congr] theorem dcK_congr' {n0 : Nat} (tk : tick = n0) (o : Oper) (e : Nat → D) (H : Nat → Blk) (fr : Nat) (K : D → (Nat → Blk) → Nat → Prop) : dcK P Γ o e H fr K = dcK P Γ o e H fr K := rfl
@[congr] theorem wpF_congr {n0 : Nat} (tk : tick = n0) (c : Code) (Q : Exit → St → Prop) (s : St) : wpF P Γ c Q s = wpF P Γ c Q s := rfl
@[congr] theorem effK_congr' {n0 : Nat} (tk : tick = n0) (o : Oper) (e : Nat → D) (H : Nat → Blk) (fr : Nat) (K : D → List Nat → List (Nat × Blk) → Nat → Prop) : effK P Γ o e H fr K = effK P Γ o e H fr K := rfl
/-- A call by its value on plain data, or on the caller's rows. -/
def orK (x y : Prop) : Prop := x ∨ y

@[go_sem] theorem isCall_func (dst : Option Nat) (x : Operand) (args : Array Operand) (at' : Array TypeId) (ty : TypeId) (pos : String) (af : Array Edge) (g : Option (Nat × Bool)) : isCall ⟨dst, .call ⟨.value x, args, at'⟩, ty, pos, af, g⟩ = true := rfl
attribute [go_sem] isCall

section
variable (dst : Option Nat) (ty : TypeId) (pos : String) (af : Array Edge) (gd : Option (Nat × Bool)) (e : Nat → D) (H : Nat → Blk) (fr : Nat) (K : D → List Nat → List (Nat × Blk) → Prop)
@[go_sem] theorem opK_move (x : Operand) : opK P Γ ⟨dst, .move x, ty, pos, af, gd⟩ e H fr K = putK (coe P ty (evalD Γ e x)) fun d => K d [] [] := rfl
@[go_sem] theorem opK_assign (x : Operand) : opK P Γ ⟨dst, .assign x, ty, pos, af, gd⟩ e H fr K = putK (coe P ty (evalD Γ e x)) fun d => K d [] [] := rfl
def pickK (c a b : D) (K : D → Prop) : Prop := match c with
  | .data (.bool true) => K a
  | .data (.bool false) => K b
  | _ => False
@[go_sem] theorem pickK_true (a b : D) (K : D → Prop) : pickK (.data (.bool true)) a b K = putK a K := rfl
@[go_sem] theorem pickK_false (a b : D) (K : D → Prop) : pickK (.data (.bool false)) a b K = putK b K := rfl
@[congr] theorem pickK_congr {n0 : Nat} (tk : tick = n0) {c c' : D} (h : c = c') (a b : D) (K : D → Prop) : pickK c a b K = pickK c' a b K := by rw [h]
@[go_sem] theorem opK_pick (c a b : Operand) : opK P Γ ⟨dst, .pick c a b, ty, pos, af, gd⟩ e H fr K = pickK (evalD Γ e c) (evalD Γ e a) (evalD Γ e b) fun d => K d [] [] := by
  simp only [opK, pickK]
  split <;> simp_all
@[go_sem] theorem opK_alloc (t : TypeId) : opK P Γ ⟨dst, .alloc t, ty, pos, af, gd⟩ e H fr K = someK (zeT P t) fun z => sideK (z.all D.cell = true) (K (.ptr fr 0) [] [(fr, .blk true z)]) := by
  simp only [opK, someK, sideK]
  split <;> simp_all
@[go_sem] theorem opK_box (t : TypeId) (x : Operand) : opK P Γ ⟨dst, .box t x, ty, pos, af, gd⟩ e H fr K = cellsK (evalD Γ e x).cells fun z => sideK (z.all D.cell = true) (K (.ptr fr 0) [] [(fr, .blk true z)]) := rfl
@[go_sem] theorem opK_build (t : TypeId) (parts : Array (Nat × Operand)) : opK P Γ ⟨dst, .build t parts, ty, pos, af, gd⟩ e H fr K = buildK P t (parts.toList.map fun x => (x.1, evalD Γ e x.2)) fun d => K d [] [] := rfl
@[go_sem] theorem buildK_eq (t : TypeId) (parts : List (Nat × D)) (K : D → Prop) : buildK P t parts K = someK (zeT P t) fun z => optK (arrT P t) (fun ne => someK (szT P ne.2) fun n => someK (fillD (fun i => some (i * n, n)) z parts) fun cells => putK (mkAgg cells) K)
    (someK (plT P t) fun places => someK (fillD (fun i => places[i]?) z parts) fun cells => putK (mkAgg cells) K) := by
  unfold buildK someK optK putK
  cases zeT P t <;> simp only
  cases arrT P t <;> simp only
  · cases plT P t <;> simp only
    split <;> simp_all
  · rename_i ne
    obtain ⟨n, el⟩ := ne
    simp only
    cases szT P el <;> simp only
    split <;> simp_all
@[congr] theorem buildK_congr {n0 : Nat} (tk : tick = n0) (t : TypeId) {p p' : List (Nat × D)} (h : p = p') (K : D → Prop) : buildK P t p K = buildK P t p' K := by rw [h]
@[go_sem] theorem fillD_nil (place : Nat → Option (Nat × Nat)) (cells : List D) : fillD place cells [] = some cells := rfl
@[go_sem] theorem fillD_cons (place : Nat → Option (Nat × Nat)) (cells : List D) (i : Nat) (d : D) (rest : List (Nat × D)) : fillD place cells ((i, d) :: rest) = (place i).bind fun os => if d.cells.length = os.2 ∧ os.1 + os.2 ≤ cells.length ∧ d.cells.all D.cell = true then fillD place (over cells os.1 d.cells) rest else none := by
  simp only [fillD]
  cases place i <;> rfl
@[go_sem] theorem opK_buildSlice (t : TypeId) (len : Nat) (parts : Array (Nat × Operand)) : opK P Γ ⟨dst, .buildSlice t len parts, ty, pos, af, gd⟩ e H fr K = someK (sliceT P t) fun el => someK (szT P el) fun es => sideK (len * es ≤ 16777216)
    (ifW (decide (len = 0)) (sideK (parts.size = 0) (K (.emp es) [] [])) (zerosK P el len fun z => someK (fillD (fun i => some (i * es, es)) z (parts.toList.map fun x => (x.1, evalD Γ e x.2))) fun cells => sideK (cells.all D.cell = true) (K (.ref fr 0 len es) [] [(fr, .blk true cells)]))) := by
  simp only [opK, someK, sideK, ifW]
  cases sliceT P t <;> simp only
  rename_i el
  cases szT P el <;> simp only
  by_cases h : len = 0 <;> simp only [h, if_true, if_false, decide_true, decide_false]
  congr 1
  apply congrArg
  funext z
  split <;> simp_all
@[go_sem] theorem zerosK_eq (el : TypeId) (n : Nat) (K : List D → Prop) : zerosK P el n K = someK (zeT P el) fun z => sideK (z.all D.cell = true) (sideK (szT P el = some z.length) (sideK (0 < z.length) (cellsK (List.replicate n z).flatten K))) := by
  unfold zerosK someK sideK cellsK
  cases zeT P el <;> rfl
@[congr] theorem zerosK_congr {n0 : Nat} (tk : tick = n0) (el : TypeId) {n n' : Nat} (h : n = n') (K : List D → Prop) : zerosK P el n K = zerosK P el n' K := by rw [h]
@[go_sem] theorem opK_load (t : TypeId) (a : Operand) : opK P Γ ⟨dst, .load t a, ty, pos, af, gd⟩ e H fr K = loadK P t (evalD Γ e a) H fun d rd => K d rd [] := rfl
@[go_sem] theorem loadK_ptr (t : TypeId) (g off : Nat) (K : D → List Nat → Prop) : loadK P t (.ptr g off) H K = blkK (H g) fun _ cells => aggK (aggT P t) (someK (szT P t) fun n => sideK (off + n ≤ cells.length) (putK (mkAgg ((cells.drop off).take n)) fun d => K d [g]))
    (someK (cells[off]?) fun d => K d [g]) := by
  simp only [loadK, blkK, aggK, someK, sideK, putK]
  cases H g with
  | dead => rfl
  | obj o => rfl
  | blk rw cells =>
    cases hA : aggT P t with
    | none => simp
    | some b =>
      cases b <;> cases hS : szT P t <;> simp only <;> (try (cases cells[off]? <;> simp))
@[go_sem] theorem loadK_cptr (t : TypeId) (cells : List Data) (K : D → List Nat → Prop) : loadK P t (.cptr cells) H K = aggK (aggT P t) (someK (szT P t) fun n => sideK (n ≤ cells.length) (putK (.data (.agg (cells.take n))) fun d => K d []))
    (someK (cells[0]?) fun d => putK (.data d) fun d => K d []) := by
  simp only [loadK, aggK, someK, sideK, putK]
  cases hA : aggT P t with
  | none => simp
  | some b =>
    cases b <;> cases hS : szT P t <;> simp only <;> (try (cases cells[0]? <;> simp))
@[congr] theorem loadK_congr {n0 : Nat} (tk : tick = n0) (t : TypeId) {x x' : D} (h : x = x') (H : Nat → Blk) (K : D → List Nat → Prop) : loadK P t x H K = loadK P t x' H K := by rw [h]
@[go_sem] theorem opK_store (t : TypeId) (a x : Operand) : opK P Γ ⟨dst, .store t a x, ty, pos, af, gd⟩ e H fr K = storeK P t (evalD Γ e a) (coe P t (evalD Γ e x)) H fun u => K .junk [] u := rfl
@[go_sem] theorem storeK_ptr (t : TypeId) (g off : Nat) (v : D) (K : List (Nat × Blk) → Prop) : storeK P t (.ptr g off) v H K = blkK (H g) fun rw cells => ifW rw (cellsK v.cells fun vc => sideK (szT P t = some vc.length) (sideK (vc.all D.cell = true) (sideK (off + vc.length ≤ cells.length) (cellsK (over cells off vc) fun nc => K [(g, .blk true nc)])))) False := by
  simp only [storeK, blkK, ifW, cellsK, sideK]
  cases H g with
  | dead => rfl
  | obj o => rfl
  | blk rw cells => cases rw <;> rfl
@[congr] theorem storeK_congr {n0 : Nat} (tk : tick = n0) (t : TypeId) {x x' v v' : D} (h : x = x') (hv : v = v') (H : Nat → Blk) (K : List (Nat × Blk) → Prop) : storeK P t x v H K = storeK P t x' v' H K := by rw [h, hv]
@[go_sem] theorem opK_binOp (op : BinOp) (t t2 : TypeId) (x y : Operand) : opK P Γ ⟨dst, .binOp op t x y t2, ty, pos, af, gd⟩ e H fr K = binK P op t (evalD Γ e x) (evalD Γ e y) fun d => K d [] [] := rfl
@[congr] theorem binK_congr {n0 : Nat} (tk : tick = n0) (op : BinOp) (t : TypeId) {x x' y y' : D} (hx : x = x') (hy : y = y') (K : D → Prop) : binK P op t x y K = binK P op t x' y' K := by rw [hx, hy]
section
variable (t : TypeId) (k : IntKind) (a b : Int) (K : D → Prop)
@[go_sem] theorem bin_add : binK P .add t (.data (.int k a)) (.data (.int k b)) K = putK (.data (.int k (k.wrap (a + b)))) K := by simp [binK, putK, intD]
@[go_sem] theorem bin_sub : binK P .sub t (.data (.int k a)) (.data (.int k b)) K = putK (.data (.int k (k.wrap (a - b)))) K := by simp [binK, putK, intD]
@[go_sem] theorem bin_mul : binK P .mul t (.data (.int k a)) (.data (.int k b)) K = putK (.data (.int k (k.wrap (a * b)))) K := by simp [binK, putK, intD]
@[go_sem] theorem bin_quo : binK P .quo t (.data (.int k a)) (.data (.int k b)) K = sideK (b ≠ 0) (putK (.data (.int k (k.wrap (a.tdiv b)))) K) := by simp [binK, putK, intD, sideK]
@[go_sem] theorem bin_rem : binK P .rem t (.data (.int k a)) (.data (.int k b)) K = sideK (b ≠ 0) (putK (.data (.int k (a.tmod b))) K) := by simp [binK, putK, intD, sideK]
@[go_sem] theorem bin_and : binK P .and t (.data (.int k a)) (.data (.int k b)) K = putK (.data (.int k (andI k a b))) K := by simp [binK, putK, intD, andI]
@[go_sem] theorem bin_or : binK P .or t (.data (.int k a)) (.data (.int k b)) K = putK (.data (.int k (orI k a b))) K := by simp [binK, putK, intD, orI]
@[go_sem] theorem bin_xor : binK P .xor t (.data (.int k a)) (.data (.int k b)) K = putK (.data (.int k (xorI k a b))) K := by simp [binK, putK, intD, xorI]
@[go_sem] theorem bin_andNot : binK P .andNot t (.data (.int k a)) (.data (.int k b)) K = putK (.data (.int k (andNotI k a b))) K := by simp [binK, putK, intD, andNotI]
@[go_sem] theorem bin_shl (k' : IntKind) : binK P .shl t (.data (.int k a)) (.data (.int k' b)) K = sideK (0 ≤ b) (putK (.data (.int k (k.wrap (a * 2 ^ (min b.toNat k.bits))))) K) := by simp [binK, putK, intD, sideK]
@[go_sem] theorem bin_shr (k' : IntKind) : binK P .shr t (.data (.int k a)) (.data (.int k' b)) K = sideK (0 ≤ b) (putK (.data (.int k (a.fdiv (2 ^ (min b.toNat k.bits))))) K) := by simp [binK, putK, intD, sideK]
@[go_sem] theorem bin_eql : binK P .eql t (.data (.int k a)) (.data (.int k b)) K = putK (.data (.bool (decide (a = b)))) K := by simp [binK, putK, boolD, cmpI]
@[go_sem] theorem bin_neq : binK P .neq t (.data (.int k a)) (.data (.int k b)) K = putK (.data (.bool (!decide (a = b)))) K := by simp [binK, putK, boolD, cmpI]
@[go_sem] theorem bin_lss : binK P .lss t (.data (.int k a)) (.data (.int k b)) K = putK (.data (.bool (decide (a < b)))) K := by simp [binK, putK, boolD, cmpI]
@[go_sem] theorem bin_leq : binK P .leq t (.data (.int k a)) (.data (.int k b)) K = putK (.data (.bool (decide (a ≤ b)))) K := by simp [binK, putK, boolD, cmpI]
@[go_sem] theorem bin_gtr : binK P .gtr t (.data (.int k a)) (.data (.int k b)) K = putK (.data (.bool (decide (b < a)))) K := by simp [binK, putK, boolD, cmpI]
@[go_sem] theorem bin_geq : binK P .geq t (.data (.int k a)) (.data (.int k b)) K = putK (.data (.bool (decide (b ≤ a)))) K := by simp [binK, putK, boolD, cmpI]
@[go_sem] theorem bin_beql (a b : Bool) : binK P .eql t (.data (.bool a)) (.data (.bool b)) K = sideK (boolT P t = true) (putK (.data (.bool (a == b))) K) := by simp [binK, putK, boolD, sideK]
@[go_sem] theorem bin_bneq (a b : Bool) : binK P .neq t (.data (.bool a)) (.data (.bool b)) K = sideK (boolT P t = true) (putK (.data (.bool (!(a == b)))) K) := by simp [binK, putK, boolD, sideK]
@[go_sem] theorem bin_seql (a b : ByteArray) : binK P .eql t (.data (.str a)) (.data (.str b)) K = putK (.data (.bool (decide (a = b)))) K := by simp [binK, putK, boolD]
@[go_sem] theorem bin_sneq (a b : ByteArray) : binK P .neq t (.data (.str a)) (.data (.str b)) K = putK (.data (.bool (!decide (a = b)))) K := by simp [binK, putK, boolD]
@[go_sem] theorem bin_aeql (a b : List Data) : binK P .eql t (.data (.agg a)) (.data (.agg b)) K = eqK P t (.agg a) (.agg b) fun q => putK (.data (.bool q)) K := by simp [binK, putK, boolD]
@[go_sem] theorem bin_aneq (a b : List Data) : binK P .neq t (.data (.agg a)) (.data (.agg b)) K = eqK P t (.agg a) (.agg b) fun q => putK (.data (.bool (!q))) K := by simp [binK, putK, boolD]
end
@[go_sem] theorem opK_unOp (op : UnOp) (t : TypeId) (x : Operand) : opK P Γ ⟨dst, .unOp op t x, ty, pos, af, gd⟩ e H fr K = unK op (evalD Γ e x) fun d => K d [] [] := rfl
@[congr] theorem unK_congr {n0 : Nat} (tk : tick = n0) (op : UnOp) {x x' : D} (hx : x = x') (K : D → Prop) : unK op x K = unK op x' K := by rw [hx]
@[go_sem] theorem un_not (b : Bool) (K : D → Prop) : unK .not (.data (.bool b)) K = putK (.data (.bool (!b))) K := rfl
@[go_sem] theorem un_neg (k : IntKind) (n : Int) (K : D → Prop) : unK .neg (.data (.int k n)) K = putK (.data (.int k (k.wrap (0 - n)))) K := rfl
@[go_sem] theorem un_xor (k : IntKind) (n : Int) (K : D → Prop) : unK .xor (.data (.int k n)) K = putK (.data (.int k (notI k n))) K := rfl
def cvtK (s d : TypeId) (x : D) (H : Nat → Blk) (K : D → List Nat → List (Nat × Blk) → Prop) : Prop := match x with
    | .ref g off len es => markK P s d g off len es H fun d u => K d [g] u
    | .data (.str x) => (if bytT P d = true then (P.underlying s).isSome = true ∧ x.size ≤ 140737488355328 ∧ K (.data (.sl 1 (x.toList.map fun b => .int .u8 b.toNat))) [] []
      else (P.underlying s).isSome = true ∧ convK P s d (.data (.str x)) fun d => K d [] [])
    | y => (P.underlying s).isSome = true ∧ convK P s d y fun d => K d [] []
@[congr] theorem cvtK_congr {n0 : Nat} (tk : tick = n0) (s d : TypeId) {x x' : D} (h : x = x') (H : Nat → Blk) (K : D → List Nat → List (Nat × Blk) → Prop) : cvtK P s d x H K = cvtK P s d x' H K := by rw [h]
@[go_sem] theorem cvt_int (s d : TypeId) (k : IntKind) (n : Int) (H : Nat → Blk) (K : D → List Nat → List (Nat × Blk) → Prop) : cvtK P s d (.data (.int k n)) H K = sideK ((P.underlying s).isSome = true) (convK P s d (.data (.int k n)) fun d => K d [] []) := rfl
@[go_sem] theorem cvt_sl (s d : TypeId) (es : Nat) (l : List Data) (H : Nat → Blk) (K : D → List Nat → List (Nat × Blk) → Prop) : cvtK P s d (.data (.sl es l)) H K = sideK ((P.underlying s).isSome = true) (convK P s d (.data (.sl es l)) fun d => K d [] []) := rfl
@[go_sem] theorem cvt_agg (s d : TypeId) (l : List Data) (H : Nat → Blk) (K : D → List Nat → List (Nat × Blk) → Prop) : cvtK P s d (.data (.agg l)) H K = sideK ((P.underlying s).isSome = true) (convK P s d (.data (.agg l)) fun d => K d [] []) := rfl
@[go_sem] theorem cvt_bool (s d : TypeId) (b : Bool) (H : Nat → Blk) (K : D → List Nat → List (Nat × Blk) → Prop) : cvtK P s d (.data (.bool b)) H K = sideK ((P.underlying s).isSome = true) (convK P s d (.data (.bool b)) fun d => K d [] []) := rfl
@[go_sem] theorem cvt_emp (s d : TypeId) (es : Nat) (H : Nat → Blk) (K : D → List Nat → List (Nat × Blk) → Prop) : cvtK P s d (.emp es) H K = sideK ((P.underlying s).isSome = true) (convK P s d (.emp es) fun d => K d [] []) := rfl
@[go_sem] theorem cvt_str (s d : TypeId) (x : ByteArray) (H : Nat → Blk) (K : D → List Nat → List (Nat × Blk) → Prop) : cvtK P s d (.data (.str x)) H K = ifW (bytT P d) (sideK ((P.underlying s).isSome = true) (sideK (x.size ≤ 140737488355328) (putK (.data (.sl 1 (x.toList.map fun b => .int .u8 b.toNat))) fun d => K d [] []))) (sideK ((P.underlying s).isSome = true) (convK P s d (.data (.str x)) fun d => K d [] [])) := by
  simp only [cvtK, sideK, putK, ifW]
  cases bytT P d <;> simp
@[go_sem] theorem cvt_ref (s d : TypeId) (g off len es : Nat) (H : Nat → Blk) (K : D → List Nat → List (Nat × Blk) → Prop) : cvtK P s d (.ref g off len es) H K = sideK (s = d) (sideK (off = 0) (sideK (es = 1) (sideK (0 < len) (someK (sliceT P d) fun e => sideK (intT P e = some .u8) (blkK (H g) fun rw cells => ifW rw (someK (allData cells) fun l => sideK (l.length = len) (sideK (l.all Data.cell = true) (K (.data (.sl 1 l)) [g] [(g, .dead)]))) False))))) := by
  simp only [cvtK, markK, sideK, someK, blkK, ifW]
  cases sliceT P d <;> simp only
  cases H g with
  | dead => rfl
  | obj o => rfl
  | blk rw cells =>
    cases rw
    · rfl
    · simp only
      cases allData cells <;> rfl
@[go_sem] theorem opK_convert (s d : TypeId) (x : Operand) : opK P Γ ⟨dst, .convert s d x, ty, pos, af, gd⟩ e H fr K = cvtK P s d (evalD Γ e x) H K := by
  simp only [opK, cvtK]
  cases evalD Γ e x with
  | data x => cases x <;> rfl
  | _ => rfl
@[congr] theorem convK_congr {n0 : Nat} (tk : tick = n0) (s d : TypeId) {x x' : D} (hx : x = x') (K : D → Prop) : convK P s d x K = convK P s d x' K := by rw [hx]
@[go_sem] theorem conv_int (s d : TypeId) (k : IntKind) (n : Int) (K : D → Prop) : convK P s d (.data (.int k n)) K = someK (intT P d) fun k => putK (.data (.int k (k.wrap n))) K := by
  simp only [convK, someK, putK, intD]
  cases intT P d <;> rfl
@[go_sem] theorem conv_str (s d : TypeId) (x : ByteArray) (K : D → Prop) : convK P s d (.data (.str x)) K = sideK (strT P d = true) (putK (.data (.str x)) K) := rfl
@[go_sem] theorem opK_makeSlice (t : TypeId) (l c : Operand) : opK P Γ ⟨dst, .makeSlice t l c, ty, pos, af, gd⟩ e H fr K = someK (sliceT P t) fun el => someK (szT P el) fun es => someK (byT P el) fun by_ => someK (natD (evalD Γ e l)) fun n => someK (natD (evalD Γ e c)) fun m =>
    sideK (0 ≤ n) (sideK (n ≤ m) (sideK (m * by_ ≤ 140737488355328) (sideK (m ≤ 9223372036854775807) (zerosK P el n.toNat fun z => K (.ref fr 0 n.toNat es) [] [(fr, .blk true z)])))) := by
  simp only [opK, someK, sideK]
  cases sliceT P t <;> simp only
  rename_i el
  cases szT P el <;> simp only
  cases byT P el <;> simp only
  unfold natD
  cases evalD Γ e l with
  | data x =>
    cases x <;> simp only
    cases evalD Γ e c with
    | data y => cases y <;> simp only
    | _ => simp
  | _ => simp
@[go_sem] theorem natD_int (k : IntKind) (n : Int) : natD (.data (.int k n)) = some n := rfl
@[go_sem] theorem opK_fieldAddr (t : TypeId) (x : Operand) (f : Nat) : opK P Γ ⟨dst, .fieldAddr t x f, ty, pos, af, gd⟩ e H fr K = fieldAddrK P t (evalD Γ e x) f fun d => K d [] [] := rfl
@[congr] theorem fieldAddrK_congr {n0 : Nat} (tk : tick = n0) (t : TypeId) {x x' : D} (hx : x = x') (f : Nat) (K : D → Prop) : fieldAddrK P t x f K = fieldAddrK P t x' f K := by rw [hx]
@[go_sem] theorem fieldAddr_ptr (t : TypeId) (g off f : Nat) (K : D → Prop) : fieldAddrK P t (.ptr g off) f K = someK (fldT P t f) fun x => someK (szT P x.2) fun n => sideK (n ≠ 0) (natK (off + x.1) fun q => K (.ptr g q)) := by
  unfold fieldAddrK someK sideK natK
  cases fldT P t f <;> simp only
  rename_i x
  cases szT P x.2 with
  | none => rfl
  | some n => cases n <;> simp
@[go_sem] theorem fieldAddr_cptr (t : TypeId) (cells : List Data) (f : Nat) (K : D → Prop) : fieldAddrK P t (.cptr cells) f K = someK (fldT P t f) fun x => someK (szT P x.2) fun n => sideK (n ≠ 0) (putK (.cptr (cells.drop x.1)) K) := by
  unfold fieldAddrK someK sideK putK
  cases fldT P t f <;> simp only
  rename_i x
  cases szT P x.2 with
  | none => rfl
  | some n => cases n <;> simp
@[go_sem] theorem opK_field (t : TypeId) (x : Operand) (f : Nat) : opK P Γ ⟨dst, .field t x f, ty, pos, af, gd⟩ e H fr K = fieldK P t (evalD Γ e x) f fun d => K d [] [] := rfl
@[go_sem] theorem opK_indexAddr (t : TypeId) (x ix : Operand) : opK P Γ ⟨dst, .indexAddr t x ix, ty, pos, af, gd⟩ e H fr K = indexAddrK P t (evalD Γ e x) (evalD Γ e ix) fun d => K d [] [] := rfl
@[congr] theorem indexAddrK_congr {n0 : Nat} (tk : tick = n0) (t : TypeId) {x x' y y' : D} (hx : x = x') (hy : y = y') (K : D → Prop) : indexAddrK P t x y K = indexAddrK P t x' y' K := by rw [hx, hy]
@[go_sem] theorem indexAddr_sl (t : TypeId) (es : Nat) (l : List Data) (k : IntKind) (i : Int) (K : D → Prop) : indexAddrK P t (.data (.sl es l)) (.data (.int k i)) K = someK (sliceT P t) fun el => sideK (szT P el = some es) (sideK (0 ≤ i) (natK i.toNat fun j => someK (l[j]?) fun y => putK (.cptr y.cells) K)) := by
  unfold indexAddrK someK sideK natK putK
  simp only
  cases sliceT P t <;> simp only
  congr 2
  cases l[i.toNat]? <;> simp
@[go_sem] theorem indexAddr_ref (t : TypeId) (g off len es : Nat) (k : IntKind) (i : Int) (K : D → Prop) : indexAddrK P t (.ref g off len es) (.data (.int k i)) K = someK (sliceT P t) fun el => sideK (szT P el = some es) (sideK (0 ≤ i) (sideK (i < len) (natK (off + i.toNat * es) fun q => K (.ptr g q)))) := by
  unfold indexAddrK someK sideK natK
  simp only
  cases sliceT P t <;> simp only
@[go_sem] theorem indexAddr_ptr (t : TypeId) (g off : Nat) (k : IntKind) (i : Int) (K : D → Prop) : indexAddrK P t (.ptr g off) (.data (.int k i)) K = someK (arrT P t) fun ne => sideK (0 ≤ i) (sideK (i < ne.1) (someK (szT P ne.2) fun es => natK (off + i.toNat * es) fun q => K (.ptr g q))) := by
  unfold indexAddrK someK sideK natK
  simp only
  cases arrT P t <;> simp only
  rename_i ne
  congr 2
  cases szT P ne.2 <;> rfl
@[go_sem] theorem indexAddr_cptr (t : TypeId) (cells : List Data) (k : IntKind) (i : Int) (K : D → Prop) : indexAddrK P t (.cptr cells) (.data (.int k i)) K = someK (arrT P t) fun ne => sideK (0 ≤ i) (sideK (i < ne.1) (someK (szT P ne.2) fun es => putK (.cptr (cells.drop (i.toNat * es))) K)) := by
  unfold indexAddrK someK sideK putK
  simp only
  cases arrT P t <;> simp only
  rename_i ne
  congr 2
  cases szT P ne.2 <;> rfl
@[go_sem] theorem opK_index (t : TypeId) (x ix : Operand) : opK P Γ ⟨dst, .index t x ix, ty, pos, af, gd⟩ e H fr K = indexK P t (evalD Γ e x) (evalD Γ e ix) fun d => K d [] [] := rfl
@[congr] theorem indexK_congr {n0 : Nat} (tk : tick = n0) (t : TypeId) {x x' y y' : D} (hx : x = x') (hy : y = y') (K : D → Prop) : indexK P t x y K = indexK P t x' y' K := by rw [hx, hy]
@[go_sem] theorem index_str (t : TypeId) (s : ByteArray) (k : IntKind) (i : Int) (K : D → Prop) : indexK P t (.data (.str s)) (.data (.int k i)) K = sideK (strT P t = true) (sideK (0 ≤ i) (someK (s[i.toNat]?) fun b => putK (.data (.int .u8 b.toNat)) K)) := by
  unfold indexK sideK someK putK intD
  simp only
  congr 2
  cases s[i.toNat]? <;> simp
@[go_sem] theorem opK_nilCheck (x : Operand) : opK P Γ ⟨dst, .nilCheck x, ty, pos, af, gd⟩ e H fr K = sideK (sureD (evalD Γ e x) = true) (putK (ptrD (evalD Γ e x)) fun d => K d [] []) := rfl
@[go_sem] theorem sureD_pc (c : List Data) : sureD (.data (.pc c)) = true := rfl
@[go_sem] theorem ptrD_ptr (g o : Nat) : ptrD (.ptr g o) = .ptr g o := rfl
@[go_sem] theorem ptrD_cptr (c : List Data) : ptrD (.cptr c) = .cptr c := rfl
@[go_sem] theorem ptrD_pc (c : List Data) : ptrD (.data (.pc c)) = .cptr c := rfl
@[go_sem] theorem sureD_ptr (g o : Nat) : sureD (.ptr g o) = true := rfl
@[go_sem] theorem sureD_cptr (c : List Data) : sureD (.cptr c) = true := rfl
@[go_sem] theorem opK_makeMap (t : TypeId) : opK P Γ ⟨dst, .makeMap t none, ty, pos, af, gd⟩ e H fr K = K (.mref fr) [] [(fr, .obj (.mp [] []))] := rfl
/-- Something put into a map. -/
def putM (kt : TypeId) (x key v : D) (H : Nat → Blk) (K : List Nat → List (Nat × Blk) → Prop) : Prop := match key, x with
  | .data k, .mref g => keyT P kt k = true ∧ mapK (H g) fun ks xs => fndK (findD k ks 0) (fun i => K [g] [(g, .obj (.mp ks (xs.set i v)))]) (K [g] [(g, .obj (.mp (ks ++ [k]) (xs ++ [v])))])
  | _, _ => False
@[go_sem] theorem putM_eq (kt : TypeId) (g : Nat) (k : Data) (v : D) (H : Nat → Blk) (K : List Nat → List (Nat × Blk) → Prop) : putM P kt (.mref g) (.data k) v H K = sideK (keyT P kt k = true) (mapK (H g) fun ks xs => fndK (findD k ks 0) (fun i => K [g] [(g, .obj (.mp ks (xs.set i v)))]) (K [g] [(g, .obj (.mp (ks ++ [k]) (xs ++ [v])))])) := rfl
@[congr] theorem putM_congr {n0 : Nat} (tk : tick = n0) (kt : TypeId) {x x' k k' v v' : D} (h1 : x = x') (h2 : k = k') (h3 : v = v') (H : Nat → Blk) (K : List Nat → List (Nat × Blk) → Prop) : putM P kt x k v H K = putM P kt x' k' v' H K := by rw [h1, h2, h3]
theorem insertK_eq (t : TypeId) (m k x : D) (H : Nat → Blk) (K : List Nat → List (Nat × Blk) → Prop) : insertK P t m k (coe P (match mapT P t with | some x => x.2 | none => t) x) H K = someK (mapT P t) fun q => putM P q.1 m k (coe P q.2 x) H K := by
  unfold insertK someK
  cases hq : mapT P t with
  | none => rfl
  | some q =>
    obtain ⟨kt, et⟩ := q
    simp only
    unfold putM
    cases k with
    | data kd =>
      cases m with
      | mref g =>
        simp only [mapK, fndK]
        cases H g with
        | obj o =>
          cases o with
          | mp ks xs =>
            simp only
            cases findD kd ks 0 with
            | none => rfl
            | some o => cases o <;> rfl
          | it => rfl
        | dead => rfl
        | blk => rfl
      | _ => rfl
    | _ => cases m <;> rfl
@[go_sem] theorem opK_insert (t : TypeId) (m k x : Operand) : opK P Γ ⟨dst, .insert t m k x, ty, pos, af, gd⟩ e H fr K = someK (mapT P t) fun q => putM P q.1 (evalD Γ e m) (evalD Γ e k) (coe P q.2 (evalD Γ e x)) H fun rd u => K .junk rd u := insertK_eq P t _ _ _ H _
@[go_sem] theorem opK_mapUpdate (t : TypeId) (m k x : Operand) : opK P Γ ⟨dst, .mapUpdate t m k x, ty, pos, af, gd⟩ e H fr K = someK (mapT P t) fun q => putM P q.1 (evalD Γ e m) (evalD Γ e k) (coe P q.2 (evalD Γ e x)) H fun rd u => K .junk rd u := insertK_eq P t _ _ _ H _
/-- Something looked up in a map. -/
def getM (kt et : TypeId) (x key : D) (ok : Bool) (H : Nat → Blk) (K : D → List Nat → Prop) : Prop := match key with
  | .data k => keyT P kt k = true ∧ (match x with
    | .data (.mp ks xs) => lookK P et ks (xs.map .data) k ok fun d => K d []
    | .mref g => mapK (H g) fun ks xs => lookK P et ks xs k ok fun d => K d [g]
    | _ => False)
  | _ => False
@[go_sem] theorem getM_own (kt et : TypeId) (g : Nat) (k : Data) (ok : Bool) (H : Nat → Blk) (K : D → List Nat → Prop) : getM P kt et (.mref g) (.data k) ok H K = sideK (keyT P kt k = true) (mapK (H g) fun ks xs => lookK P et ks xs k ok fun d => K d [g]) := rfl
@[go_sem] theorem getM_data (kt et : TypeId) (ks xs : List Data) (k : Data) (ok : Bool) (H : Nat → Blk) (K : D → List Nat → Prop) : getM P kt et (.data (.mp ks xs)) (.data k) ok H K = sideK (keyT P kt k = true) (lookK P et ks (xs.map .data) k ok fun d => K d []) := rfl
@[congr] theorem getM_congr {n0 : Nat} (tk : tick = n0) (kt et : TypeId) {x x' k k' : D} (h1 : x = x') (h2 : k = k') (ok : Bool) (H : Nat → Blk) (K : D → List Nat → Prop) : getM P kt et x k ok H K = getM P kt et x' k' ok H K := by rw [h1, h2]
@[go_sem] theorem look_get (et : TypeId) (ks : List Data) (xs : List D) (k : Data) (K : D → Prop) : lookK P et ks xs k false K = fndK (findD k ks 0) (fun i => someK (xs[i]?) fun d => putK d K) (someK (zvT P et) fun d => putK d K) := by
  unfold lookK fndK someK putK zvK
  cases findD k ks 0 with
  | none => rfl
  | some o =>
    cases o with
    | none => simp only [Bool.false_eq_true, if_false]; cases zvT P et <;> rfl
    | some i =>
      simp only
      cases xs[i]? with
      | none => rfl
      | some d => cases d <;> rfl
@[go_sem] theorem look_ok2 (et : TypeId) (ks : List Data) (xs : List D) (k : Data) (K : D → Prop) : lookK P et ks xs k true K = fndK (findD k ks 0) (fun i => someK (xs[i]?) fun d => dataK d fun x => putK (.data (.tup [x, .bool true])) K) (someK (zvT P et) fun d => dataK d fun x => putK (.data (.tup [x, .bool false])) K) := by
  unfold lookK fndK someK putK zvK dataK
  cases findD k ks 0 with
  | none => rfl
  | some o =>
    cases o with
    | none =>
      simp only [if_true]
      cases zvT P et with
      | none => rfl
      | some d => cases d <;> rfl
    | some i =>
      simp only
      cases xs[i]? with
      | none => rfl
      | some d => cases d <;> rfl
@[congr] theorem lookK_congr {n0 : Nat} (tk : tick = n0) (et : TypeId) {ks ks' : List Data} (h1 : ks = ks') {xs xs' : List D} (h2 : xs = xs') {k k' : Data} (h3 : k = k') (ok : Bool) (K : D → Prop) : lookK P et ks xs k ok K = lookK P et ks' xs' k' ok K := by rw [h1, h2, h3]
@[go_sem] theorem opK_lookup (t : TypeId) (x i : Operand) (ok : Bool) : opK P Γ ⟨dst, .lookup t x i ok, ty, pos, af, gd⟩ e H fr K = someK (mapT P t) fun q => getM P q.1 q.2 (evalD Γ e x) (evalD Γ e i) ok H fun d rd => K d rd [] := by
  simp only [opK, lookupK, someK, getM]
  cases mapT P t with
  | none => rfl
  | some q =>
    cases evalD Γ e i with
    | data k =>
      simp only
      congr 1
    | _ => rfl
def rngK (x : D) (fr : Nat) (K : D → List Nat → List (Nat × Blk) → Prop) : Prop := match x with
  | .data (.mp ks xs) => K (.iref fr) [] [(fr, .obj (.it ks xs (List.range ks.length) none))]
  | _ => False
@[go_sem] theorem rngK_mp (ks xs : List Data) (fr : Nat) (K : D → List Nat → List (Nat × Blk) → Prop) : rngK (.data (.mp ks xs)) fr K = K (.iref fr) [] [(fr, .obj (.it ks xs (List.range ks.length) none))] := rfl
@[congr] theorem rngK_congr {n0 : Nat} (tk : tick = n0) {x x' : D} (h : x = x') (fr : Nat) (K : D → List Nat → List (Nat × Blk) → Prop) : rngK x fr K = rngK x' fr K := by rw [h]
@[go_sem] theorem opK_range (t : TypeId) (x : Operand) : opK P Γ ⟨dst, .range t x, ty, pos, af, gd⟩ e H fr K = someK (mapT P t) fun _ => rngK (evalD Γ e x) fr K := by
  simp only [opK, someK, rngK]
  cases mapT P t with
  | none => rfl
  | some q =>
    cases evalD Γ e x with
    | data x => cases x <;> rfl
    | _ => rfl
@[go_sem] theorem opK_entry (x : Operand) : opK P Γ ⟨dst, .entry x, ty, pos, af, gd⟩ e H fr K = entryK (evalD Γ e x) H fun d rd => K d rd [] := rfl
@[go_sem] theorem entryK_eq (g : Nat) (K : D → List Nat → Prop) : entryK (.iref g) H K = itrK (H g) fun ks xs _ cur => someK cur fun i => someK (ks[i]?) fun k => someK (xs[i]?) fun v => putK (.data (.tup [k, v])) fun d => K d [g] := by
  unfold entryK itrK someK putK
  simp only
  cases H g with
  | dead => rfl
  | blk => rfl
  | obj o =>
    cases o with
    | mp => rfl
    | it ks xs left cur =>
      cases cur with
      | none => rfl
      | some i =>
        simp only
        cases ks[i]? <;> cases xs[i]? <;> simp
@[congr] theorem entryK_congr {n0 : Nat} (tk : tick = n0) {x x' : D} (h : x = x') (H : Nat → Blk) (K : D → List Nat → Prop) : entryK x H K = entryK x' H K := by rw [h]
/-- What goes on in more than one way: what comes next of a map; a row that may be none. -/
def nextM (g : Nat) (ks xs : List Data) (left : List Nat) (H : Nat → Blk) (nx : Nat) (K : D → (Nat → Blk) → Nat → Prop) : Prop := (left = [] → K (.data (.tup [.bool false])) H (nx + 1)) ∧
  ∀ i k x, i ∈ left → ks[i]? = some k → xs[i]? = some x → K (.data (.tup [.bool true, k, x])) (Hp.set H g (.obj (.it ks xs (left.filter (· != i)) (some i)))) (nx + 1)
def nilM (p : Prop) (H : Nat → Blk) (nx : Nat) (K : D → (Nat → Blk) → Nat → Prop) : Prop := ∀ b : Bool, (b = true → p) → K (.data (.bool b)) H (nx + 1)
@[congr] theorem nextM_congr {n0 : Nat} (tk : tick = n0) (g : Nat) (ks xs : List Data) (left : List Nat) (H : Nat → Blk) (nx : Nat) (K : D → (Nat → Blk) → Nat → Prop) : nextM g ks xs left H nx K = nextM g ks xs left H nx K := rfl
@[congr] theorem nilM_congr {n0 : Nat} (tk : tick = n0) (p : Prop) (H : Nat → Blk) (nx : Nat) (K : D → (Nat → Blk) → Nat → Prop) : nilM p H nx K = nilM p H nx K := rfl
def stepM (x : D) (H : Nat → Blk) (nx : Nat) (K : D → (Nat → Blk) → Nat → Prop) : Prop := match x with
  | .iref g => itrK (H g) fun ks xs left _ => nextM g ks xs left H nx K
  | _ => False
@[go_sem] theorem stepM_eq (g : Nat) (H : Nat → Blk) (nx : Nat) (K : D → (Nat → Blk) → Nat → Prop) : stepM (.iref g) H nx K = itrK (H g) fun ks xs left _ => nextM g ks xs left H nx K := rfl
@[congr] theorem stepM_congr {n0 : Nat} (tk : tick = n0) {x x' : D} (h : x = x') (H : Nat → Blk) (nx : Nat) (K : D → (Nat → Blk) → Nat → Prop) : stepM x H nx K = stepM x' H nx K := by rw [h]
@[go_sem] theorem dcK_next (x : Operand) (K : D → (Nat → Blk) → Nat → Prop) : dcK P Γ ⟨dst, .next x false, ty, pos, af, gd⟩ e H fr K = stepM (evalD Γ e x) H fr K := by
  simp only [dcK, stepM]
  cases evalD Γ e x with
  | iref g =>
    simp only [itrK]
    cases H g with
    | obj o => cases o <;> rfl
    | dead => rfl
    | blk => rfl
  | _ => rfl
@[go_sem] theorem opK_next (x : Operand) : opK P Γ ⟨dst, .next x false, ty, pos, af, gd⟩ e H fr K = False := rfl
def isnM (x : D) (H : Nat → Blk) (nx : Nat) (K : D → (Nat → Blk) → Nat → Prop) : Prop := match x with
  | .data (.sl _ l) => nilM (l = []) H nx K
  | .ref _ _ len _ => nilM (len = 0) H nx K
  | .emp _ => nilM True H nx K
  | _ => False
@[go_sem] theorem isnM_sl (n : Nat) (l : List Data) (H : Nat → Blk) (nx : Nat) (K : D → (Nat → Blk) → Nat → Prop) : isnM (.data (.sl n l)) H nx K = nilM (l = []) H nx K := rfl
@[go_sem] theorem isnM_ref (g o n s : Nat) (H : Nat → Blk) (nx : Nat) (K : D → (Nat → Blk) → Nat → Prop) : isnM (.ref g o n s) H nx K = nilM (n = 0) H nx K := rfl
@[go_sem] theorem isnM_emp (n : Nat) (H : Nat → Blk) (nx : Nat) (K : D → (Nat → Blk) → Nat → Prop) : isnM (.emp n) H nx K = nilM True H nx K := rfl
@[congr] theorem isnM_congr {n0 : Nat} (tk : tick = n0) {x x' : D} (h : x = x') (H : Nat → Blk) (nx : Nat) (K : D → (Nat → Blk) → Nat → Prop) : isnM x H nx K = isnM x' H nx K := by rw [h]
@[go_sem] theorem dcK_nil (t yt : TypeId) (x : Operand) (K : D → (Nat → Blk) → Nat → Prop) : dcK P Γ ⟨dst, .binOp .eql t x (.const (.slice none 0 0)) yt, ty, pos, af, gd⟩ e H fr K = sideK ((sliceT P t).isSome = true) (isnM (evalD Γ e x) H fr K) := by
  simp only [dcK, isnM, sideK, nilM]
  congr 1
  cases evalD Γ e x with
  | data x => cases x <;> rfl
  | emp n => simp; rfl
  | _ => rfl
@[go_sem] theorem bin_nil_sl (op : BinOp) (t : TypeId) (n m : Nat) (l : List Data) (K : D → Prop) : binK P op t (.data (.sl n l)) (.emp m) K = False := rfl
@[go_sem] theorem bin_nil_ref (op : BinOp) (t : TypeId) (g o n s m : Nat) (K : D → Prop) : binK P op t (.ref g o n s) (.emp m) K = False := rfl
@[go_sem] theorem bin_nil_emp (op : BinOp) (t : TypeId) (n m : Nat) (K : D → Prop) : binK P op t (.emp n) (.emp m) K = False := rfl
@[go_sem] theorem findD_nil (k : Data) (i : Nat) : findD k [] i = some none := rfl
def foundK (o : Option Bool) (i : Nat) (r : Option (Option Nat)) : Option (Option Nat) := match o with
  | some true => some (some i)
  | some false => r
  | none => none
@[go_sem] theorem findD_cons (k x : Data) (ks : List Data) (i : Nat) : findD k (x :: ks) i = foundK (keyEq k x) i (findD k ks (i + 1)) := by
  simp only [findD, foundK]
  split <;> simp_all
@[go_sem] theorem foundK_true (i : Nat) (r : Option (Option Nat)) : foundK (some true) i r = some (some i) := rfl
@[go_sem] theorem foundK_false (i : Nat) (r : Option (Option Nat)) : foundK (some false) i r = r := rfl
@[congr] theorem foundK_congr {n0 : Nat} (tk : tick = n0) {o o' : Option Bool} (h : o = o') (i : Nat) (r : Option (Option Nat)) : foundK o i r = foundK o' i r := by rw [h]
@[go_sem] theorem keyEq_int (k : IntKind) (a b : Int) : keyEq (.int k a) (.int k b) = some (a == b) := by simp [keyEq]
@[go_sem] theorem keyEq_str (a b : ByteArray) : keyEq (.str a) (.str b) = some (a == b) := rfl
@[go_sem] theorem opK_extract (x : Operand) (i : Nat) : opK P Γ ⟨dst, .extract x i, ty, pos, af, gd⟩ e H fr K = extractK (evalD Γ e x) i fun d => K d [] [] := rfl
end
end
/-- A row of the call's own, read out. -/
theorem frz_ref {ok : Bool} {H : Nat → Blk} {g len es : Nat} {cells : List D} {l : List Data} {rw : Bool} (hg : H g = .blk rw cells) (hrw : ok = true ∨ rw = false) (hl : l.length = len) (hes : ∀ x ∈ l, x.cells.length = es) (hc : cells = (flat l).map .data) : Frz ok H (.ref g 0 len es) (.sl es l) := by
  subst hc
  refine .ref g 0 len es rw _ l (fun i => .data ((flat l).getD i .nilp)) hg hrw hl hes (by simp [flat_length hes, hl]) (fun i x hx => ?_) (fun i x hx => ?_)
  · have hi := (List.getElem?_eq_some_iff.1 hx).1
    simp [hx]
  · have : (flat l).getD i .nilp = x := by simp [hx]
    rw [this]; exact .data x
attribute [irreducible] someK
end Go.Proofs.Ytdodhnkbdechaaa
