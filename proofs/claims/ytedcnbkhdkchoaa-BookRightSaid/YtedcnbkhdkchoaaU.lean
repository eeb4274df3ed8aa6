/- What the walk's simp goes by, second part: code, calls, loops. -/
import Derived.Test.YtedcnbkhdkchoaaS
import Derived.Laws.Bits64
import Derived.Laws.BitsAllLaws
namespace Go.Proofs.Ytedcnbkhdkchoaa
open Go.RowKit
set_option linter.unusedVariables false
set_option linter.unusedSimpArgs false

theorem someK_of {α : Type} {o : Option α} {x : α} {K : α → Prop} (h : o = some x) (k : K x) : someK o K := by rw [h, someK_some]; exact k
theorem side {p q : Prop} (h : p) (k : q) : sideK p q := ⟨h, k⟩
/-- Both sides of a choice that hangs on something open. -/
theorem ifW_of {b : Bool} {x y : Prop} (h : b = true → x) (k : b = false → y) : ifW b x y := by
  cases b
  · exact k rfl
  · exact h rfl
theorem ifW_dec {p : Prop} [Decidable p] {x y : Prop} (h : p → x) (k : ¬ p → y) : ifW (decide p) x y := ifW_of (fun e => h (of_decide_eq_true e)) (fun e => k (of_decide_eq_false e))
theorem ifW_ndec {p : Prop} [Decidable p] {x y : Prop} (h : ¬ p → x) (k : p → y) : ifW (!decide p) x y := ifW_of (fun e => h (by simpa using e)) (fun e => k (by simpa using e))

/- Numbers. -/
@[go_sem] theorem wrap64 {x : Int} (h : -9223372036854775808 ≤ x ∧ x ≤ 9223372036854775807) : IntKind.i64.wrap x = x := by rw [IntKind.wrap_i64]; omega
@[go_sem] theorem wrapI32 {x : Int} (h : -2147483648 ≤ x ∧ x ≤ 2147483647) : IntKind.i32.wrap x = x := by rw [IntKind.wrap_i32]; omega
@[go_sem] theorem wrapU8 (x : Int) : IntKind.u8.wrap x = x % 256 := IntKind.wrap_u8 x
@[go_sem] theorem wrapU16 (x : Int) : IntKind.u16.wrap x = x % 65536 := IntKind.wrap_u16 x
@[go_sem] theorem wrapU32 (x : Int) : IntKind.u32.wrap x = x % 4294967296 := IntKind.wrap_u32 x
@[go_sem] theorem wrapU64 (x : Int) : IntKind.u64.wrap x = x % 18446744073709551616 := IntKind.wrap_u64 x
theorem mod_of {a : Nat} {m : Nat} (h : a < m) : a % m = a := Nat.mod_eq_of_lt h
@[go_sem] theorem and_u32 {a b : Nat} (ha : a < 4294967296) (hb : b < 4294967296) : andI .u32 a b = ((a &&& b : Nat) : Int) := by
  have h : a &&& b < 2 ^ 32 := Nat.and_lt_two_pow a (by simpa using hb)
  unfold andI
  rw [IntKind.wrap_u32, BitVec.ofInt_natCast, BitVec.ofInt_natCast, BitVec.toNat_and, BitVec.toNat_ofNat, BitVec.toNat_ofNat, mod_of (show a < 2 ^ IntKind.u32.bits from ha), mod_of (show b < 2 ^ IntKind.u32.bits from hb)]
  omega
@[go_sem] theorem or_u32 {a b : Nat} (ha : a < 4294967296) (hb : b < 4294967296) : orI .u32 a b = ((a ||| b : Nat) : Int) := by
  have h : a ||| b < 2 ^ 32 := Nat.or_lt_two_pow (by simpa using ha) (by simpa using hb)
  unfold orI
  rw [IntKind.wrap_u32, BitVec.ofInt_natCast, BitVec.ofInt_natCast, BitVec.toNat_or, BitVec.toNat_ofNat, BitVec.toNat_ofNat, mod_of (show a < 2 ^ IntKind.u32.bits from ha), mod_of (show b < 2 ^ IntKind.u32.bits from hb)]
  omega
@[go_sem] theorem xor_u32 {a b : Nat} (ha : a < 4294967296) (hb : b < 4294967296) : xorI .u32 a b = ((a ^^^ b : Nat) : Int) := by
  have h : a ^^^ b < 2 ^ 32 := Nat.xor_lt_two_pow (by simpa using ha) (by simpa using hb)
  unfold xorI
  rw [IntKind.wrap_u32, BitVec.ofInt_natCast, BitVec.ofInt_natCast, BitVec.toNat_xor, BitVec.toNat_ofNat, BitVec.toNat_ofNat, mod_of (show a < 2 ^ IntKind.u32.bits from ha), mod_of (show b < 2 ^ IntKind.u32.bits from hb)]
  omega
@[go_sem] theorem not_u32 {a : Nat} (ha : a < 4294967296) : notI .u32 a = ((4294967295 - a : Nat) : Int) := by
  unfold notI
  show IntKind.u32.wrap ((BitVec.ofInt 32 4294967295 ^^^ BitVec.ofInt 32 (a : Int)).toNat : Int) = _
  have hm : a % 2 ^ 32 = a := Nat.mod_eq_of_lt (by simpa using ha)
  rw [show BitVec.ofInt 32 4294967295 = BitVec.allOnes 32 by decide, IntKind.wrap_u32, BitVec.ofInt_natCast, BitVec.allOnes_xor, BitVec.toNat_not, BitVec.toNat_ofNat, hm]
  omega
theorem ne_lt {a b : Nat} (h : a < b) : (a = b) = False := by simp only [eq_iff_iff, iff_false]; omega
theorem ne_gt {a b : Nat} (h : b < a) : (a = b) = False := by simp only [eq_iff_iff, iff_false]; omega
@[go_sem] theorem min_left {a b : Nat} (h : a ≤ b) : min a b = a := Nat.min_eq_left h
@[go_sem] theorem min_right {a b : Nat} (h : b ≤ a) : min a b = b := Nat.min_eq_right h
@[go_sem] theorem tdiv_pos {a b : Int} (h : 0 ≤ a) : a.tdiv b = a / b := Int.tdiv_eq_ediv_of_nonneg h
@[go_sem] theorem tmod_pos {a b : Int} (h : 0 ≤ a) : a.tmod b = a % b := Int.tmod_eq_emod_of_nonneg h
@[go_sem] theorem fdiv_pow (a : Int) (n : Nat) : a.fdiv (2 ^ n) = a / 2 ^ n := Int.fdiv_eq_ediv_of_nonneg _ (by exact Int.le_of_lt (Int.pow_pos (by decide)))
@[go_sem] theorem toNat_nat (n : Nat) : (n : Int).toNat = n := Int.toNat_natCast n

@[go_sem] theorem get_zero {α : Type} (x : α) (l : List α) : (x :: l)[0]? = some x := rfl
@[go_sem] theorem get_succ {α : Type} (x : α) (l : List α) (i : Nat) : (x :: l)[i + 1]? = l[i]? := rfl
theorem take_data {l : List Data} {n : Nat} (h : l.length = n) : List.take n (l.map D.data) = l.map D.data := List.take_of_length_le (by simp [h])
theorem take_all {l : List Data} {n : Nat} (h : l.length = n) : List.take n l = l := List.take_of_length_le (by simp [h])
theorem all_cells {l : List Data} (h : ∀ x ∈ l, x.cell = true) : (∀ x ∈ l, x.cell = true) ↔ True := iff_true_intro h
theorem all_data {l : List Data} (h : ∀ x ∈ l, x.cell = true) : (∀ x ∈ l.map D.data, x.cell = true) ↔ True := ⟨fun _ => trivial, fun _ x hx => by
  obtain ⟨y, hy, rfl⟩ := List.mem_map.1 hx
  exact h y hy⟩

def condK (d : D) (x y : Prop) : Prop := match d with
  | .data (.bool b) => ifW b x y
  | _ => False
@[go_sem] theorem condK_bool (b : Bool) (x y : Prop) : condK (.data (.bool b)) x y = ifW b x y := rfl
@[congr] theorem condK_congr {n0 : Nat} (tk : tick = n0) {d d' : D} (h : d = d') (x y : Prop) : condK d x y = condK d' x y := by rw [h]

section
variable (P : Program) (Γ : Nat → Option (List Data))
@[go_sem] theorem wpF_skip (Q : Exit → St → Prop) (s : St) : wpF P Γ .skip Q s = Q .normal s := rfl
@[go_sem] theorem wpF_draw (i : Nat) (ops : List Oper) (Q : Exit → St → Prop) (s : St) : wpF P Γ (.region i ops.toArray true) Q s = drawW P Γ ops.toArray ops s [] (fun s' tr => sideK (drawOk2 ops.toArray tr s.nx s'.nx = true) (Q .normal s')) := rfl
@[go_sem] theorem wpF_row (i : Nat) (ops : List Oper) (Q : Exit → St → Prop) (s : St) : wpF P Γ (.region i ops.toArray false) Q s = opsW P Γ ops.toArray ops s (Q .normal) := rfl
@[go_sem] theorem wpF_seq (x y : Code) (Q : Exit → St → Prop) (s : St) : wpF P Γ (.seq x y) Q s = wpF P Γ x (thenW (wpF P Γ y Q) Q) s := rfl
@[go_sem] theorem wpF_cond (c : Operand) (x y : Code) (Q : Exit → St → Prop) (s : St) : wpF P Γ (.cond c x y) Q s = condK (evalD Γ s.env c) (wpF P Γ x Q s) (wpF P Γ y Q s) := rfl
@[go_sem] theorem wpF_block (id : Nat) (b : Code) (Q : Exit → St → Prop) (s : St) : wpF P Γ (.block id b) Q s = wpF P Γ b (blockW id Q) s := rfl
@[go_sem] theorem wpF_loop (b : Code) (Q : Exit → St → Prop) (s : St) : wpF P Γ (.loop b) Q s = LoopW (wpF P Γ b) Q s := rfl
@[go_sem] theorem wpF_exit (id : Nat) (Q : Exit → St → Prop) (s : St) : wpF P Γ (.exit id) Q s = Q (.exit id) s := rfl
@[go_sem] theorem wpF_ret (Q : Exit → St → Prop) (s : St) : wpF P Γ .ret Q s = Q .ret s := rfl
@[go_sem] theorem thenW_normal (n : St → Prop) (Q : Exit → St → Prop) (s : St) : thenW n Q .normal s = n s := rfl
@[go_sem] theorem thenW_exit (n : St → Prop) (Q : Exit → St → Prop) (s : St) (id : Nat) : thenW n Q (.exit id) s = Q (.exit id) s := rfl
@[go_sem] theorem thenW_ret (n : St → Prop) (Q : Exit → St → Prop) (s : St) : thenW n Q .ret s = Q .ret s := rfl
@[go_sem] theorem blockW_normal (id : Nat) (Q : Exit → St → Prop) (s : St) : blockW id Q .normal s = Q .normal s := rfl
@[go_sem] theorem blockW_exit (id i : Nat) (Q : Exit → St → Prop) (s : St) : blockW id Q (.exit i) s = ifW (decide (i = id)) (Q .normal s) (Q (.exit i) s) := by
  by_cases h : i = id <;> simp [blockW, ifW, h]
@[go_sem] theorem blockW_ret (id : Nat) (Q : Exit → St → Prop) (s : St) : blockW id Q .ret s = Q .ret s := rfl
@[congr] theorem thenW_congr {n0 : Nat} (tk : tick = n0) (n : St → Prop) (Q : Exit → St → Prop) (x : Exit) (s : St) : thenW n Q x s = thenW n Q x s := rfl
@[congr] theorem blockW_congr {n0 : Nat} (tk : tick = n0) (id : Nat) (Q : Exit → St → Prop) (x : Exit) (s : St) : blockW id Q x s = blockW id Q x s := rfl
@[congr] theorem resK_congr {n0 : Nat} (tk : tick = n0) {l l' : List ResultVar} (h : l = l') (s : St) (K : List D → Prop) : resK P l s K = resK P l' s K := by rw [h]
@[congr] theorem retQ_congr {n0 : Nat} (tk : tick = n0) (fn : Func) (r : Data) (x : Exit) (s : St) : retQ P fn r x s = retQ P fn r x s := rfl
@[congr] theorem retDQ_congr {n0 : Nat} (tk : tick = n0) (fn : Func) (K : D → (Nat → Blk) → Nat → Prop) (x : Exit) (s : St) : retDQ P fn K x s = retDQ P fn K x s := rfl
@[go_sem] theorem retQ_ret (fn : Func) (r : Data) (s : St) : retQ P fn r .ret s = resK P fn.results.toList s fun ds => ∃ xs, FrzL true s.hp ds xs ∧ r = tupD xs := rfl
@[go_sem] theorem retQ_normal (fn : Func) (r : Data) (s : St) : retQ P fn r .normal s = resK P fn.results.toList s fun ds => ∃ xs, FrzL true s.hp ds xs ∧ r = tupD xs := rfl
@[go_sem] theorem retDQ_ret (fn : Func) (K : D → (Nat → Blk) → Nat → Prop) (s : St) : retDQ P fn K .ret s = resK P fn.results.toList s fun ds => ∃ d, tupDD ds = some d ∧ K d s.hp s.nx := rfl
@[go_sem] theorem retDQ_normal (fn : Func) (K : D → (Nat → Blk) → Nat → Prop) (s : St) : retDQ P fn K .normal s = resK P fn.results.toList s fun ds => ∃ d, tupDD ds = some d ∧ K d s.hp s.nx := rfl
@[go_sem] theorem tupDD_one (d : D) : tupDD [d] = some d := rfl
@[go_sem] theorem tupDD_two (a b : D) (l : List D) : tupDD (a :: b :: l) = (allData (a :: b :: l)).map fun xs => .data (.tup xs) := rfl
@[go_sem] theorem resK_nil (s : St) (K : List D → Prop) : resK P [] s K = K [] := rfl
@[go_sem] theorem resK_tmp (t : Nat) (rest : List ResultVar) (s : St) (K : List D → Prop) : resK P (.tmp t :: rest) s K = putK (s.env t) fun d => resK P rest s fun ds => K (d :: ds) := rfl
@[go_sem] theorem resK_cell (a : Nat) (t : TypeId) (rest : List ResultVar) (s : St) (K : List D → Prop) : resK P (.cell a t :: rest) s K = loadK P t (s.env a) s.hp fun d _ => resK P rest s fun ds => K (d :: ds) := rfl

@[go_sem] theorem extract_tup (vs : List Data) (i : Nat) (K : D → Prop) : extractK (.data (.tup vs)) i K = someK (vs[i]?) fun v => putK (.data v) K := by
  unfold extractK someK putK
  apply propext
  constructor
  · rintro ⟨v, hv, hk⟩; rw [hv]; exact hk
  · intro hk
    cases h : vs[i]? with
    | none => rw [h] at hk; exact hk.elim
    | some v => rw [h] at hk; exact ⟨v, h, hk⟩
@[congr] theorem extractK_congr {n0 : Nat} (tk : tick = n0) {x x' : D} (h : x = x') (i : Nat) (K : D → Prop) : extractK x i K = extractK x' i K := by rw [h]
@[go_sem] theorem partK_eq (t : TypeId) (cs : List D) (off : Nat) (K : D → Prop) : partK P t cs off K = aggK (aggT P t) (someK (szT P t) fun n => sideK (off + n ≤ cs.length) (putK (mkAgg ((cs.drop off).take n)) K)) (someK (cs[off]?) fun d => K d) := by
  unfold partK aggK someK sideK putK
  cases aggT P t with
  | none => cases szT P t <;> rfl
  | some b =>
    cases b
    · cases szT P t <;> simp only <;> cases cs[off]? <;> simp
    · cases szT P t <;> rfl
@[congr] theorem partK_congr {n0 : Nat} (tk : tick = n0) (t : TypeId) {cs cs' : List D} (h : cs = cs') {off off' : Nat} (h2 : off = off') (K : D → Prop) : partK P t cs off K = partK P t cs' off' K := by rw [h, h2]
@[go_sem] theorem field_data (t : TypeId) (cs : List Data) (f : Nat) (K : D → Prop) : fieldK P t (.data (.agg cs)) f K = someK (fldT P t f) fun x => partK P x.2 (cs.map .data) x.1 K := by
  unfold fieldK aggD someK
  cases fldT P t f <;> rfl
@[go_sem] theorem field_agg (t : TypeId) (cs : List D) (f : Nat) (K : D → Prop) : fieldK P t (.agg cs) f K = someK (fldT P t f) fun x => partK P x.2 cs x.1 K := by
  unfold fieldK aggD someK
  cases fldT P t f <;> rfl
@[congr] theorem fieldK_congr {n0 : Nat} (tk : tick = n0) (t : TypeId) {x x' : D} (h : x = x') (f : Nat) (K : D → Prop) : fieldK P t x f K = fieldK P t x' f K := by rw [h]
@[go_sem] theorem index_data (t : TypeId) (cs : List Data) (k : IntKind) (i : Int) (K : D → Prop) : indexK P t (.data (.agg cs)) (.data (.int k i)) K = someK (arrT P t) fun ne => sideK (0 ≤ i) (sideK (i < ne.1) (someK (szT P ne.2) fun es => partK P ne.2 (cs.map .data) (i.toNat * es) K)) := by
  unfold indexK aggD someK sideK
  cases arrT P t with
  | none => rfl
  | some ne => obtain ⟨n, e⟩ := ne; simp only; congr 2; cases szT P e <;> rfl
@[go_sem] theorem index_agg (t : TypeId) (cs : List D) (k : IntKind) (i : Int) (K : D → Prop) : indexK P t (.agg cs) (.data (.int k i)) K = someK (arrT P t) fun ne => sideK (0 ≤ i) (sideK (i < ne.1) (someK (szT P ne.2) fun es => partK P ne.2 cs (i.toNat * es) K)) := by
  unfold indexK aggD someK sideK
  cases arrT P t with
  | none => rfl
  | some ne => obtain ⟨n, e⟩ := ne; simp only; congr 2; cases szT P e <;> rfl

/-- A slice expression. -/
def slcK (t : TypeId) (x : D) (lo hi : Option D) (H : Nat → Blk) (K : D → List Nat → List (Nat × Blk) → Prop) : Prop := match x with
    | .ptr _ _ | .cptr _ => sliceArrK P t x lo hi none H fun d rd => K d rd []
    | .cut g off len cp es => cutK P t g off len cp es lo hi none fun d => K d [] []
    | _ => sliceK P t x lo hi none fun d => K d [] []
/-- A slice expression with three bounds. -/
def slc3K (t : TypeId) (x : D) (lo hi mx : Option D) (K : D → List Nat → List (Nat × Blk) → Prop) : Prop := match x with
    | .cut g off len cp es => cutK P t g off len cp es lo hi mx fun d => K d [] []
    | _ => False
@[congr] theorem slc3K_congr {n0 : Nat} (tk : tick = n0) (t : TypeId) {x x' : D} (h : x = x') {lo lo' hi hi' mx mx' : Option D} (h2 : lo = lo') (h3 : hi = hi') (h4 : mx = mx') (K : D → List Nat → List (Nat × Blk) → Prop) : slc3K P t x lo hi mx K = slc3K P t x' lo' hi' mx' K := by rw [h, h2, h3, h4]
@[congr] theorem boundsC_congr {n0 : Nat} (tk : tick = n0) (n c : Nat) {lo lo' hi hi' mx mx' : Option D} (h2 : lo = lo') (h3 : hi = hi') (h4 : mx = mx') (K : Nat → Nat → Nat → Prop) : boundsC n c lo hi mx K = boundsC n c lo' hi' mx' K := by rw [h2, h3, h4]
@[go_sem] theorem cutK_eq (t : TypeId) (g off len cp es : Nat) (lo hi mx : Option D) (K : D → Prop) : cutK P t g off len cp es lo hi mx K = someK (sliceT P t) fun e => sideK (szT P e = some es) (boundsC len cp lo hi mx fun a b c => natK (off + a * es) fun o => natK (b - a) fun n => natK (c - a) fun q => K (.cut g o n q es)) := by
  unfold cutK someK sideK natK
  cases sliceT P t <;> rfl
@[go_sem] theorem slc_cut (t : TypeId) (g off len cp es : Nat) (lo hi : Option D) (H : Nat → Blk) (K : D → List Nat → List (Nat × Blk) → Prop) : slcK P t (.cut g off len cp es) lo hi H K = cutK P t g off len cp es lo hi none fun d => K d [] [] := rfl
@[go_sem] theorem slc3_cut (t : TypeId) (g off len cp es : Nat) (lo hi mx : Option D) (K : D → List Nat → List (Nat × Blk) → Prop) : slc3K P t (.cut g off len cp es) lo hi mx K = cutK P t g off len cp es lo hi mx fun d => K d [] [] := rfl
@[go_sem] theorem boundsC_hi (n c : Nat) (k : IntKind) (h : Int) (K : Nat → Nat → Nat → Prop) : boundsC n c none (some (.data (.int k h))) none K = sideK (0 ≤ h) (sideK (h ≤ c) (natK h.toNat fun b => K 0 b c)) := by simp [boundsC, natD, sideK, natK]
@[go_sem] theorem boundsC_lo (n c : Nat) (k : IntKind) (l : Int) (K : Nat → Nat → Nat → Prop) : boundsC n c (some (.data (.int k l))) none none K = sideK (0 ≤ l) (sideK (l ≤ n) (sideK (n ≤ c) (natK l.toNat fun a => K a n c))) := by simp [boundsC, natD, sideK, natK]
@[go_sem] theorem boundsC_both (n c : Nat) (k k' : IntKind) (l h : Int) (K : Nat → Nat → Nat → Prop) : boundsC n c (some (.data (.int k l))) (some (.data (.int k' h))) none K = sideK (0 ≤ l) (sideK (l ≤ h) (sideK (h ≤ c) (natK l.toNat fun a => natK h.toNat fun b => K a b c))) := by simp [boundsC, natD, sideK, natK]
@[go_sem] theorem boundsC_all (n c : Nat) (k k' k2 : IntKind) (l h m : Int) (K : Nat → Nat → Nat → Prop) : boundsC n c (some (.data (.int k l))) (some (.data (.int k' h))) (some (.data (.int k2 m))) K = sideK (0 ≤ l) (sideK (l ≤ h) (sideK (h ≤ m) (sideK (m ≤ c) (natK l.toNat fun a => natK h.toNat fun b => natK m.toNat fun q => K a b q)))) := by simp [boundsC, natD, sideK, natK]
@[congr] theorem slcK_congr {n0 : Nat} (tk : tick = n0) (t : TypeId) {x x' : D} (h : x = x') {lo lo' hi hi' : Option D} (h2 : lo = lo') (h3 : hi = hi') (H : Nat → Blk) (K : D → List Nat → List (Nat × Blk) → Prop) : slcK P t x lo hi H K = slcK P t x' lo' hi' H K := by rw [h, h2, h3]
@[congr] theorem boundsK_congr {n0 : Nat} (tk : tick = n0) (n : Nat) {lo lo' hi hi' : Option D} (h2 : lo = lo') (h3 : hi = hi') (K : Nat → Nat → Prop) : boundsK n lo hi K = boundsK n lo' hi' K := by rw [h2, h3]
@[go_sem] theorem slc_ref (t : TypeId) (g off len es : Nat) (lo hi : Option D) (H : Nat → Blk) (K : D → List Nat → List (Nat × Blk) → Prop) : slcK P t (.ref g off len es) lo hi H K = someK (sliceT P t) fun e => sideK (szT P e = some es) (boundsK len lo hi fun a b => natK (off + a * es) fun q => natK (b - a) fun m => K (.ref g q m es) [] []) := by
  unfold slcK sliceK someK sideK natK
  cases sliceT P t <;> rfl
@[go_sem] theorem slc_sl (t : TypeId) (es : Nat) (l : List Data) (lo hi : Option D) (H : Nat → Blk) (K : D → List Nat → List (Nat × Blk) → Prop) : slcK P t (.data (.sl es l)) lo hi H K = someK (sliceT P t) fun e => sideK (szT P e = some es) (boundsK l.length lo hi fun a b => putK (.data (.sl es ((l.take b).drop a))) fun d => K d [] []) := by
  unfold slcK sliceK someK sideK putK
  cases sliceT P t <;> rfl
@[go_sem] theorem slc_emp (t : TypeId) (es : Nat) (lo hi : Option D) (H : Nat → Blk) (K : D → List Nat → List (Nat × Blk) → Prop) : slcK P t (.emp es) lo hi H K = someK (sliceT P t) fun e => sideK (szT P e = some es) (boundsK 0 lo hi fun a b => K (.emp es) [] []) := by
  unfold slcK sliceK someK sideK
  cases sliceT P t <;> rfl
@[go_sem] theorem slc_str (t : TypeId) (s : ByteArray) (lo hi : Option D) (H : Nat → Blk) (K : D → List Nat → List (Nat × Blk) → Prop) : slcK P t (.data (.str s)) lo hi H K = sideK (strT P t = true) (boundsK s.size lo hi fun a b => putK (.data (.str (s.extract a b))) fun d => K d [] []) := rfl
@[go_sem] theorem slc_ptr (t : TypeId) (g off : Nat) (lo hi : Option D) (H : Nat → Blk) (K : D → List Nat → List (Nat × Blk) → Prop) : slcK P t (.ptr g off) lo hi H K = someK (arrT P t) fun ne => someK (szT P ne.2) fun es => blkK (H g) fun rw cells => sideK (ne.1 ≤ 9223372036854775807) (sideK (off + ne.1 * es ≤ cells.length) (boundsK ne.1 lo hi fun a b => natK (off + a * es) fun q => natK (b - a) fun m => K (.ref g q m es) [g] [])) := by
  unfold slcK sliceArrK someK sideK natK blkK
  simp only
  cases arrT P t with
  | none => rfl
  | some ne =>
    obtain ⟨n, e⟩ := ne
    simp only
    cases szT P e with
    | none => rfl
    | some es => cases H g <;> rfl
@[go_sem] theorem slc_cptr (t : TypeId) (cells : List Data) (lo hi : Option D) (H : Nat → Blk) (K : D → List Nat → List (Nat × Blk) → Prop) : slcK P t (.cptr cells) lo hi H K = someK (arrT P t) fun ne => sideK (szT P ne.2 = some 1) (sideK (ne.1 ≤ 9223372036854775807) (sideK (ne.1 ≤ cells.length) (sideK (∀ x ∈ cells.take ne.1, x.cell = true) (boundsK ne.1 lo hi fun a b => putK (.data (.sl 1 (((cells.take ne.1).take b).drop a))) fun d => K d [] [])))) := by
  unfold slcK sliceArrK someK sideK putK
  simp only
  cases arrT P t <;> rfl
@[go_sem] theorem bounds_none (n : Nat) (K : Nat → Nat → Prop) : boundsK n none none K = K 0 n := by simp [boundsK]
@[go_sem] theorem bounds_hi (n : Nat) (k : IntKind) (h : Int) (K : Nat → Nat → Prop) : boundsK n none (some (.data (.int k h))) K = sideK (0 ≤ h) (sideK (h ≤ n) (natK h.toNat fun b => K 0 b)) := by simp [boundsK, natD, sideK, natK]
@[go_sem] theorem bounds_lo (n : Nat) (k : IntKind) (l : Int) (K : Nat → Nat → Prop) : boundsK n (some (.data (.int k l))) none K = sideK (0 ≤ l) (sideK (l ≤ n) (natK l.toNat fun a => K a n)) := by simp [boundsK, natD, sideK, natK]
@[go_sem] theorem bounds_both (n : Nat) (k k' : IntKind) (l h : Int) (K : Nat → Nat → Prop) : boundsK n (some (.data (.int k l))) (some (.data (.int k' h))) K = sideK (0 ≤ l) (sideK (l ≤ h) (sideK (h ≤ n) (natK l.toNat fun a => natK h.toNat fun b => K a b))) := by simp [boundsK, natD, sideK, natK]

section
variable (dst : Option Nat) (ty : TypeId) (pos : String) (af : Array Edge) (gd : Option (Nat × Bool)) (e : Nat → D) (H : Nat → Blk) (fr : Nat) (K : D → List Nat → List (Nat × Blk) → Prop)
@[go_sem] theorem opK_slice (t : TypeId) (x : Operand) (lo hi : Option Operand) : opK P Γ ⟨dst, .slice t x lo hi none, ty, pos, af, gd⟩ e H fr K = slcK P t (evalD Γ e x) (lo.map (evalD Γ e)) (hi.map (evalD Γ e)) H K := by
  simp only [opK, slcK, Option.map_none]
  cases evalD Γ e x <;> rfl
@[go_sem] theorem opK_slice3 (t : TypeId) (x m : Operand) (lo hi : Option Operand) : opK P Γ ⟨dst, .slice t x lo hi (some m), ty, pos, af, gd⟩ e H fr K = (match evalD Γ e x with
    | .ptr _ _ | .cptr _ => sliceArrK P t (evalD Γ e x) (lo.map (evalD Γ e)) (hi.map (evalD Γ e)) (some (evalD Γ e m)) H fun d rd => K d rd []
    | .cut g off len cp es => cutK P t g off len cp es (lo.map (evalD Γ e)) (hi.map (evalD Γ e)) (some (evalD Γ e m)) fun d => K d [] []
    | _ => sliceK P t (evalD Γ e x) (lo.map (evalD Γ e)) (hi.map (evalD Γ e)) (some (evalD Γ e m)) fun d => K d [] []) := rfl
@[go_sem] theorem opK_makeFunc (f : FuncId) (caps : Array Operand) : opK P Γ ⟨dst, .makeFunc (.func f) #[] caps, ty, pos, af, gd⟩ e H fr K = putK (.fn f (caps.toList.map (evalD Γ e))) fun d => K d [] [] := rfl
@[go_sem] theorem opK_bind (f : FuncId) (r : Operand) : opK P Γ ⟨dst, .makeFunc (.func f) #[r] #[], ty, pos, af, gd⟩ e H fr K = putK (.bnd f (evalD Γ e r)) fun d => K d [] [] := by
  simp [opK, putK]
@[go_sem] theorem opK_call (x : Operand) (args : Array Operand) (ts : Array TypeId) : opK P Γ ⟨dst, .call ⟨.value x, args, ts⟩, ty, pos, af, gd⟩ e H fr K = someK (fnD (evalD Γ e x)) fun fc => callK P Γ fc.1 (fc.2.1 ++ (args.toList.map (evalD Γ e) ++ fc.2.2)) H K := by
  simp only [opK]
  cases fnD (evalD Γ e x)
  · rw [someK_none]
  · rw [someK_some]
@[go_sem] theorem effK_call (x : Operand) (args : Array Operand) (ts : Array TypeId) (K : D → List Nat → List (Nat × Blk) → Nat → Prop) : effK P Γ ⟨dst, .call ⟨.value x, args, ts⟩, ty, pos, af, gd⟩ e H fr K = someK (fnD (evalD Γ e x)) fun fc => effC P Γ fc.1 (fc.2.1 ++ (args.toList.map (evalD Γ e) ++ fc.2.2)) H fr K := by
  simp only [effK]
  cases fnD (evalD Γ e x)
  · rw [someK_none]
  · rw [someK_some]
@[congr] theorem clearK_congr {n0 : Nat} (tk : tick = n0) (t : TypeId) {x x' : D} (h : x = x') (H : Nat → Blk) (K : D → List Nat → List (Nat × Blk) → Prop) : clearK P t x H K = clearK P t x' H K := by rw [h]
@[go_sem] theorem opK_clear (x : Operand) (t : TypeId) : opK P Γ ⟨dst, .call ⟨.builtin .clear, #[x], #[t]⟩, ty, pos, af, gd⟩ e H fr K = clearK P t (evalD Γ e x) H K := rfl
@[go_sem] theorem clear_emp (t : TypeId) (n : Nat) : clearK P t (.emp n) H K = someK (sliceT P t) fun _ => K (.data (.tup [])) [] [] := by
  unfold clearK someK
  cases sliceT P t <;> rfl
@[go_sem] theorem clear_ref (t : TypeId) (g off len es : Nat) : clearK P t (.ref g off len es) H K = someK (sliceT P t) fun el => blkK (H g) fun rw cells => ifW rw (sideK (szT P el = some es) (sideK (off + len * es ≤ cells.length) (zerosK P el len fun z => K (.data (.tup [])) [g] [(g, .blk true (over cells off z))]))) False := by
  unfold clearK someK sideK blkK ifW
  cases sliceT P t <;> simp only
  cases H g with
  | dead => rfl
  | obj o => rfl
  | blk rw cells => cases rw <;> rfl
@[go_sem] theorem clear_cut (t : TypeId) (g off len cp es : Nat) : clearK P t (.cut g off len cp es) H K = someK (sliceT P t) fun el => blkK (H g) fun rw cells => ifW rw (sideK (szT P el = some es) (sideK (off + len * es ≤ cells.length) (zerosK P el len fun z => K (.data (.tup [])) [g] [(g, .blk true (over cells off z))]))) False := by
  unfold clearK someK sideK blkK ifW
  cases sliceT P t <;> simp only
  cases H g with
  | dead => rfl
  | obj o => rfl
  | blk rw cells => cases rw <;> rfl
@[congr] theorem lenK_congr {n0 : Nat} (tk : tick = n0) (t : TypeId) {x x' : D} (h : x = x') (K : D → Prop) : lenK P t x K = lenK P t x' K := by rw [h]
@[go_sem] theorem opK_len (x : Operand) (t : TypeId) : opK P Γ ⟨dst, .call ⟨.builtin .len, #[x], #[t]⟩, ty, pos, af, gd⟩ e H fr K = lenK P t (evalD Γ e x) fun d => K d [] [] := rfl
@[go_sem] theorem opK_copy (x y : Operand) (t u : TypeId) : opK P Γ ⟨dst, .call ⟨.builtin .copy, #[x, y], #[t, u]⟩, ty, pos, af, gd⟩ e H fr K = copyK P t (evalD Γ e x) (evalD Γ e y) H K := rfl
@[go_sem] theorem opK_append (x y : Operand) (t u : TypeId) : opK P Γ ⟨dst, .call ⟨.builtin .append, #[x, y], #[t, u]⟩, ty, pos, af, gd⟩ e H fr K = appendK P t u (evalD Γ e x) (evalD Γ e y) H fr K := rfl
@[go_sem] theorem opK_min (x y : Operand) (ts : Array TypeId) : opK P Γ ⟨dst, .call ⟨.builtin .min, #[x, y], ts⟩, ty, pos, af, gd⟩ e H fr K = minmaxK false [evalD Γ e x, evalD Γ e y] fun d => K d [] [] := rfl
@[go_sem] theorem opK_max (x y : Operand) (ts : Array TypeId) : opK P Γ ⟨dst, .call ⟨.builtin .max, #[x, y], ts⟩, ty, pos, af, gd⟩ e H fr K = minmaxK true [evalD Γ e x, evalD Γ e y] fun d => K d [] [] := rfl
@[congr] theorem minmaxK_congr {n0 : Nat} (tk : tick = n0) (b : Bool) {ds ds' : List D} (h : ds = ds') (K : D → Prop) : minmaxK b ds K = minmaxK b ds' K := by rw [h]
@[congr] theorem copyK_congr {n0 : Nat} (tk : tick = n0) (t : TypeId) {x x' y y' : D} (h : x = x') (h2 : y = y') (H : Nat → Blk) (K : D → List Nat → List (Nat × Blk) → Prop) : copyK P t x y H K = copyK P t x' y' H K := by rw [h, h2]
@[congr] theorem appendK_congr {n0 : Nat} (tk : tick = n0) (t u : TypeId) {x x' y y' : D} (h : x = x') (h2 : y = y') (H : Nat → Blk) (fr : Nat) (K : D → List Nat → List (Nat × Blk) → Prop) : appendK P t u x y H fr K = appendK P t u x' y' H fr K := by rw [h, h2]
@[congr] theorem srcK_congr {n0 : Nat} (tk : tick = n0) {x x' : D} (h : x = x') (es : Nat) (H : Nat → Blk) (K : Nat → List D → List Nat → Prop) : srcK x es H K = srcK x' es H K := by rw [h]
@[go_sem] theorem len_str (t : TypeId) (s : ByteArray) (K : D → Prop) : lenK P t (.data (.str s)) K = sideK (strT P t = true) (putK (.data (.int .i64 s.size)) K) := rfl
@[go_sem] theorem len_sl (t : TypeId) (es : Nat) (l : List Data) (K : D → Prop) : lenK P t (.data (.sl es l)) K = sideK ((sliceT P t).isSome = true) (putK (.data (.int .i64 l.length)) K) := rfl
@[go_sem] theorem len_ref (t : TypeId) (g o n es : Nat) (K : D → Prop) : lenK P t (.ref g o n es) K = sideK ((sliceT P t).isSome = true) (putK (.data (.int .i64 n)) K) := rfl
@[go_sem] theorem len_cut (t : TypeId) (g o n c es : Nat) (K : D → Prop) : lenK P t (.cut g o n c es) K = sideK ((sliceT P t).isSome = true) (putK (.data (.int .i64 n)) K) := rfl
@[go_sem] theorem len_emp (t : TypeId) (es : Nat) (K : D → Prop) : lenK P t (.emp es) K = sideK ((sliceT P t).isSome = true) (putK (.data (.int .i64 0)) K) := rfl
@[go_sem] theorem len_agg (t : TypeId) (cs : List Data) (K : D → Prop) : lenK P t (.data (.agg cs)) K = someK (arrT P t) fun ne => putK (.data (.int .i64 ne.1)) K := by
  unfold lenK someK
  simp only
  cases arrT P t <;> rfl
@[go_sem] theorem min_int (k k' : IntKind) (a b : Int) (K : D → Prop) : minmaxK false [.data (.int k a), .data (.int k' b)] K = sideK (k = k') (putK (.data (.int k (if b < a then b else a))) K) := rfl
@[go_sem] theorem max_int (k k' : IntKind) (a b : Int) (K : D → Prop) : minmaxK true [.data (.int k a), .data (.int k' b)] K = sideK (k = k') (putK (.data (.int k (if b > a then b else a))) K) := rfl
@[go_sem] theorem src_sl (es es' : Nat) (l : List Data) (K : Nat → List D → List Nat → Prop) : srcK (.data (.sl es' l)) es H K = sideK (es' = es) (natK l.length fun n => cellsK ((flat l).map .data) fun cs => K n cs []) := rfl
@[go_sem] theorem src_emp (es es' : Nat) (K : Nat → List D → List Nat → Prop) : srcK (.emp es') es H K = K 0 [] [] := rfl
@[go_sem] theorem src_ref (g off len es es' : Nat) (K : Nat → List D → List Nat → Prop) : srcK (.ref g off len es') es H K = sideK (es' = es) (blkK (H g) fun _ cells => sideK (off + len * es ≤ cells.length) (cellsK ((cells.drop off).take (len * es)) fun cs => K len cs [g])) := by
  unfold srcK sideK blkK cellsK
  simp only
  cases H g <;> rfl
@[go_sem] theorem src_cut (g off len cp es es' : Nat) (K : Nat → List D → List Nat → Prop) : srcK (.cut g off len cp es') es H K = sideK (es' = es) (blkK (H g) fun _ cells => sideK (off + len * es ≤ cells.length) (cellsK ((cells.drop off).take (len * es)) fun cs => K len cs [g])) := by
  unfold srcK sideK blkK cellsK
  simp only
  cases H g <;> rfl
@[go_sem] theorem src_str (s : ByteArray) (es : Nat) (K : Nat → List D → List Nat → Prop) : srcK (.data (.str s)) es H K = sideK (es = 1) (natK s.size fun n => cellsK (s.toList.map fun b => .data (.int .u8 b.toNat)) fun cs => K n cs []) := rfl
@[go_sem] theorem copy_ref (t : TypeId) (g off len es : Nat) (y : D) : copyK P t (.ref g off len es) y H K = someK (sliceT P t) fun el => someK (szT P el) fun n => sideK (es = n) (blkK (H g) fun rw cells => ifW rw (sideK (off + len * n ≤ cells.length) (srcK y n H fun m cs rd => sideK (cs.all D.cell = true) (natK (min m len) fun q => cellsK (over cells off (cs.take (q * n))) fun nc => K (.data (.int .i64 q)) (g :: rd) [(g, .blk true nc)]))) False) := by
  unfold copyK someK sideK blkK ifW natK cellsK
  simp only
  cases sliceT P t <;> simp only
  rename_i el
  cases szT P el <;> simp only
  cases H g with
  | dead => rfl
  | obj o => rfl
  | blk rw cells => cases rw <;> rfl
/-- What is put behind a row. -/
def appK (e xt : TypeId) (es by_ len : Nat) (y : D) (H : Nat → Blk) (K : Nat → List D → List Nat → Prop) : Prop :=
  if (intT P xt).isSome then (match y with
          | .data (.int _ n) => 0 ≤ n ∧ (len + n) * by_ ≤ 140737488355328 ∧ len + n ≤ 140737488355328 ∧ zerosK P e n.toNat fun z => K n.toNat z []
          | _ => False)
        else ((sliceT P xt).isSome || strT P xt) = true ∧ srcK y es H fun n cs rd => cs.all D.cell = true ∧ (len + n) * by_ ≤ 140737488355328 ∧ len + n ≤ 140737488355328 ∧ K n cs rd
@[congr] theorem appK_congr {n0 : Nat} (tk : tick = n0) (el xt : TypeId) (es by_ len : Nat) {y y' : D} (h : y = y') (H : Nat → Blk) (K : Nat → List D → List Nat → Prop) : appK P el xt es by_ len y H K = appK P el xt es by_ len y' H K := by rw [h]
@[go_sem] theorem appK_int (el xt : TypeId) (es by_ len : Nat) (k : IntKind) (n : Int) (H : Nat → Blk) (K : Nat → List D → List Nat → Prop) : appK P el xt es by_ len (.data (.int k n)) H K = sideK ((intT P xt).isSome = true) (sideK (0 ≤ n) (sideK ((len + n) * by_ ≤ 140737488355328) (sideK (len + n ≤ 140737488355328) (zerosK P el n.toNat fun z => K n.toNat z [])))) := by
  unfold appK sideK srcK
  by_cases h : (intT P xt).isSome <;> simp [h]
@[go_sem] def appS (el xt : TypeId) (es by_ len : Nat) (y : D) (H : Nat → Blk) (K : Nat → List D → List Nat → Prop) : Prop := sideK ((intT P xt).isSome = false) (sideK (((sliceT P xt).isSome || strT P xt) = true) (srcK y es H fun n cs rd => sideK (cs.all D.cell = true) (sideK ((len + n) * by_ ≤ 140737488355328) (sideK (len + n ≤ 140737488355328) (K n cs rd)))))
theorem appK_src (el xt : TypeId) (es by_ len : Nat) (y : D) (hy : ∀ k n, y ≠ .data (.int k n)) (H : Nat → Blk) (K : Nat → List D → List Nat → Prop) : appK P el xt es by_ len y H K = appS P el xt es by_ len y H K := by
  unfold appK appS sideK
  by_cases h : (intT P xt).isSome
  · simp only [h, if_true]
    cases y with
    | data x => cases x <;> simp_all
    | _ => simp
  · simp [h]
@[go_sem] theorem appK_sl (el xt : TypeId) (es by_ len : Nat) (es' : Nat) (l : List Data) (H : Nat → Blk) (K : Nat → List D → List Nat → Prop) : appK P el xt es by_ len (.data (.sl es' l)) H K = appS P el xt es by_ len (.data (.sl es' l)) H K := appK_src P el xt es by_ len _ (by simp) H K
@[go_sem] theorem appK_str (el xt : TypeId) (es by_ len : Nat) (s : ByteArray) (H : Nat → Blk) (K : Nat → List D → List Nat → Prop) : appK P el xt es by_ len (.data (.str s)) H K = appS P el xt es by_ len (.data (.str s)) H K := appK_src P el xt es by_ len _ (by simp) H K
@[go_sem] theorem appK_ref (el xt : TypeId) (es by_ len : Nat) (g o n s : Nat) (H : Nat → Blk) (K : Nat → List D → List Nat → Prop) : appK P el xt es by_ len (.ref g o n s) H K = appS P el xt es by_ len (.ref g o n s) H K := appK_src P el xt es by_ len _ (by simp) H K
@[go_sem] theorem appK_emp (el xt : TypeId) (es by_ len : Nat) (s : Nat) (H : Nat → Blk) (K : Nat → List D → List Nat → Prop) : appK P el xt es by_ len (.emp s) H K = appS P el xt es by_ len (.emp s) H K := appK_src P el xt es by_ len _ (by simp) H K
@[go_sem] theorem append_emp (t u : TypeId) (es : Nat) (y : D) : appendK P t u (.emp es) y H fr K = someK (sliceT P t) fun el => someK (szT P el) fun n => someK (byT P el) fun by_ => sideK (0 < n) (sideK (zlT P el = some n) (appK P el u n by_ 0 y H fun m cs rd => K (.ref fr 0 m n) rd [(fr, .blk true cs)])) := by
  unfold appendK someK sideK appK
  simp only
  cases sliceT P t <;> simp only
  rename_i el
  cases szT P el <;> simp only
  cases byT P el <;> simp only
  by_cases h : (intT P u).isSome
  · simp only [h, if_true]
    cases y with
    | data x => cases x <;> simp
    | _ => rfl
  · simp [h]
@[go_sem] theorem append_cut (t u : TypeId) (g off len cp es : Nat) (y : D) : appendK P t u (.cut g off len cp es) y H fr K = someK (sliceT P t) fun el => someK (szT P el) fun n => someK (byT P el) fun by_ => sideK (0 < n) (sideK (zlT P el = some n) (sideK (es = n) (blkK (H g) fun rw cells => ifW rw (sideK ((intT P u).isSome = false) (sideK (((sliceT P u).isSome || strT P u) = true) (sideK (off + cp * n ≤ cells.length)
    (srcK y n H fun m cs rd => sideK (cs.all D.cell = true) (sideK (len + m ≤ cp) (natK (len + m) fun q => cellsK (over cells (off + len * n) cs) fun nc => K (.cut g off q cp n) (g :: rd) [(g, .blk true nc)])))))) False))) := by
  unfold appendK someK sideK blkK ifW cellsK natK
  simp only
  cases sliceT P t <;> simp only
  rename_i el
  cases szT P el <;> simp only
  rename_i n
  cases byT P el <;> simp only
  by_cases he : es = n
  · subst he
    simp only [true_and]
    cases H g with
    | dead => rfl
    | obj o => rfl
    | blk rw cells => cases rw <;> rfl
  · simp [he]
@[go_sem] theorem append_ref (t u : TypeId) (g len es : Nat) (y : D) : appendK P t u (.ref g 0 len es) y H fr K = someK (sliceT P t) fun el => someK (szT P el) fun n => someK (byT P el) fun by_ => sideK (0 < n) (sideK (zlT P el = some n) (sideK (es = n) (blkK (H g) fun rw cells => ifW rw (sideK (cells.length = len * n) (appK P el u n by_ len y H fun m cs rd => cellsK (cells ++ cs) fun nc => K (.ref fr 0 (len + m) n) (g :: rd) [(g, .dead), (fr, .blk true nc)])) False))) := by
  unfold appendK someK sideK appK blkK ifW cellsK
  simp only
  cases sliceT P t <;> simp only
  rename_i el
  cases szT P el <;> simp only
  cases byT P el <;> simp only
  cases H g with
  | dead => rfl
  | obj o => rfl
  | blk rw cells =>
    cases rw
    · rfl
    · simp only
      by_cases h : (intT P u).isSome
      · simp only [h, if_true]
        cases y with
        | data x => cases x <;> rfl
        | _ => rfl
      · simp [h]
end
@[go_sem] theorem dcK_eq (dst : Option Nat) (ty : TypeId) (pos : String) (af : Array Edge) (gd : Option (Nat × Bool)) (e : Nat → D) (H : Nat → Blk) (nx : Nat) (K : D → (Nat → Blk) → Nat → Prop) (x : Operand) (args : Array Operand) (ts : Array TypeId) :
    dcK P Γ ⟨dst, .call ⟨.value x, args, ts⟩, ty, pos, af, gd⟩ e H nx K = someK (fnD (evalD Γ e x)) fun fc => DC P Γ fc.1 (fc.2.1 ++ (args.toList.map (evalD Γ e) ++ fc.2.2)) H nx K := by
  unfold dcK someK
  simp only
  cases fnD (evalD Γ e x) <;> rfl
@[go_sem] theorem fnD_data (f : FuncId) (c : List Data) : fnD (.data (.fn f c)) = some (f, [], c.map toD) := rfl
@[go_sem] theorem fnD_bnd (f : FuncId) (r : D) : fnD (.bnd f r) = some (f, [r], []) := rfl
@[go_sem] theorem fnD_fn (f : FuncId) (c : List D) : fnD (.fn f c) = some (f, [], c) := rfl

variable {P Γ}
/-- A call whose arguments are plain data. -/
theorem call_data {f : FuncId} {ds : List D} {xs : List Data} {r : Data} {H : Nat → Blk} {K : D → List Nat → List (Nat × Blk) → Prop} (h : PC P Γ f xs r) (hd : ds = xs.map toD) (k : K (.data r) [] []) : callK P Γ f ds H K := by
  subst hd
  refine ⟨[], xs, r, [], (fun g hg => by cases hg), h, .inr fun H' _ => ?_, k⟩
  refine ⟨by simp, fun i d x hd hx => ?_⟩
  rw [List.getElem?_map, hx] at hd
  cases hd
  cases x with
  | pc c => exact .cptr c
  | _ => exact .data _
/-- A call that reads rows of the caller's, and hands back what holds none. -/
theorem call_bare {f : FuncId} {ds : List D} {H : Nat → Blk} {K : D → List Nat → List (Nat × Blk) → Prop} (rd : List Nat) {xs : List Data} {r : Data} (h : PC P Γ f xs r) (hb : Bare r) (hf : ∀ H', (∀ g ∈ rd, H' g = H g) → FrzL true H' ds xs) (k : K (.data r) rd []) : callK P Γ f ds H K :=
  ⟨[], xs, r, rd, (fun g hg => by cases hg), h, .inl ⟨rfl, hb, hf⟩, k⟩
/-- A call that keeps rows of the caller's: nobody writes them from there on. -/
theorem call_frz {f : FuncId} {ds : List D} {H : Nat → Blk} {K : D → List Nat → List (Nat × Blk) → Prop} (F rd : List Nat) {xs : List Data} {r : Data} (hF : ∀ g ∈ F, ∃ rw cells, H g = .blk rw cells) (h : PC P Γ f xs r) (hf : ∀ H', (∀ g ∈ rd, H' g = H g) → FrzL false (Hp.upd H' (F.map fun g => (g, fz (H g)))) ds xs) (k : K (.data r) rd (F.map fun g => (g, fz (H g)))) : callK P Γ f ds H K :=
  ⟨F, xs, r, rd, hF, h, .inr hf, k⟩
end

/-- Behind a loop's round: a state of the family, nearer to the end. -/
def NextW {σ : Type} (st : σ → St) (μ : σ → Nat) (x : σ) (s : St) : Prop := ∃ y, WeakX s (st y) ∧ μ y < μ x
@[congr] theorem NextW_congr {n0 : Nat} (tk : tick = n0) {σ : Type} (st : σ → St) (μ : σ → Nat) (x : σ) (s : St) : NextW st μ x s = NextW st μ x s := rfl
theorem next_of {σ : Type} {st : σ → St} {μ : σ → Nat} {x : σ} {s : St} (y : σ) (h : Weak s (st y)) (hm : μ y < μ x) : NextW st μ x s := ⟨y, .inl h, hm⟩
theorem next_ren {σ : Type} {st : σ → St} {μ : σ → Nat} {x : σ} {s : St} (y : σ) (hm : μ y < μ x) (F : List Nat) (ρ : Nat → Option Nat) (h : WeakR F ρ s (st y)) : NextW st μ x s := ⟨y, .inr ⟨F, ρ, h⟩, hm⟩
theorem loop_of {body : (Exit → St → Prop) → St → Prop} {Q : Exit → St → Prop} {s : St} {σ : Type} (st : σ → St) (μ : σ → Nat) (x0 : σ) (h0 : Weak s (st x0)) (h : ∀ x, body (thenW (NextW st μ x) Q) (st x)) : LoopW body Q s := ⟨σ, st, μ, x0, .inl h0, h⟩
theorem loop_ren {body : (Exit → St → Prop) → St → Prop} {Q : Exit → St → Prop} {s : St} {σ : Type} (st : σ → St) (μ : σ → Nat) (x0 : σ) (F : List Nat) (ρ : Nat → Option Nat) (h0 : WeakR F ρ s (st x0)) (h : ∀ x, body (thenW (NextW st μ x) Q) (st x)) : LoopW body Q s := ⟨σ, st, μ, x0, .inr ⟨F, ρ, h0⟩, h⟩

def startK (ds : List D) (n : Nat) (K : List D → Nat → Prop) : Prop := K ds n
@[congr] theorem startK_congr {n0 : Nat} (tk : tick = n0) {ds ds' : List D} (h : ds = ds') {n n' : Nat} (h2 : n = n') (K : List D → Nat → Prop) : startK ds n K = startK ds' n' K := by rw [h, h2]
@[go_sem] theorem startK_eq (ds : List D) (n : Nat) (K : List D → Nat → Prop) : startK ds n K = K ds n := rfl
section
variable {P : Program} {Γ : Nat → Option (List Data)}
theorem pc_by (hm : P.follows .mixedOrders = true) {f : FuncId} {fn : Func} {c : Code} {xs : List Data} {r : Data} (hf : P.funcs[f]? = some fn) (hb : fn.body = some c) (hc : CallOk P f)
    (h : startK (xs.map toD) (xs.length + (fn.ntmps - xs.length)) fun ds n => wpF P Γ c (retQ P fn r) ⟨envArgs ds, fun _ => .dead, 0, 0, n⟩) : PC P Γ f xs r := pc_of hm hf hb hc h
theorem dc_by (hm : P.follows .mixedOrders = true) {f : FuncId} {fn : Func} {c : Code} {ds : List D} {H : Nat → Blk} {nx : Nat} {K : D → (Nat → Blk) → Nat → Prop} (hf : P.funcs[f]? = some fn) (hb : fn.body = some c) (hc : CallOk P f)
    (h : startK ds (ds.length + (fn.ntmps - ds.length)) fun ds n => wpF P Γ c (retDQ P fn K) ⟨envArgs ds, H, nx, nx, n⟩) : DC P Γ f ds H nx K := dc_of hm hf hb hc h
end

/-- A pointer to a row of the call's own, for as long as nobody writes it. -/
theorem frz_ptr {ok : Bool} {H : Nat → Blk} {g : Nat} {l : List Data} {rw : Bool} (hg : H g = .blk rw (l.map .data)) (hrw : ok = true ∨ rw = false) : Frz ok H (.ptr g 0) (.pc l) :=
  .ptr g 0 rw _ l (fun i => .data (l.getD i .nilp)) hg hrw (fun i x hx => by simp [hx]) fun i x hx => by
    have : l.getD i .nilp = x := by simp [hx]
    rw [this]; exact .data x

theorem frzL_c {ok : Bool} {H : Nat → Blk} {d : D} {x : Data} {ds : List D} {xs : List Data} (h : Frz ok H d x) (t : FrzL ok H ds xs) : FrzL ok H (d :: ds) (x :: xs) := (frzL_cons ok H d ds (x :: xs)).2 ⟨x, xs, rfl, h, t⟩
theorem frzL_n {ok : Bool} {H : Nat → Blk} : FrzL ok H [] [] := (frzL_nil ok H []).2 rfl

/-- Slots by a list. -/
def envL : List (Nat × D) → Nat → D
  | [], _ => .junk
  | (k, d) :: l, t => if t = k then d else envL l t
def hpL : List (Nat × Blk) → Nat → Blk
  | [], _ => .dead
  | (k, d) :: l, t => if t = k then d else hpL l t
@[go_sem] theorem envL_nil (t : Nat) : envL [] t = .junk := rfl
@[go_sem] theorem envL_cons (k : Nat) (d : D) (l : List (Nat × D)) (t : Nat) : envL ((k, d) :: l) t = if t = k then d else envL l t := rfl
@[go_sem] theorem hpL_nil (t : Nat) : hpL [] t = .dead := rfl
@[go_sem] theorem hpL_cons (k : Nat) (d : Blk) (l : List (Nat × Blk)) (t : Nat) : hpL ((k, d) :: l) t = if t = k then d else hpL l t := rfl
/-- All that it holds lies below a number. -/
def below (k : Nat) : D → Bool
  | .ref g _ _ _ => decide (g < k)
  | .ptr g _ => decide (g < k)
  | .cut g _ _ _ _ => decide (g < k)
  | .mref g => decide (g < k)
  | .iref g => decide (g < k)
  | .agg cs => allBelow k cs
  | .fn _ cs => allBelow k cs
  | .bnd _ r => below k r
  | _ => true
where allBelow (k : Nat) : List D → Bool
  | [] => true
  | d :: l => below k d && allBelow k l
mutual
theorem scoped_of {k : Nat} : ∀ {d : D}, below k d = true → Scoped k d
  | .ref g o n s, h => .ref g o n s (by simpa [below] using h)
  | .ptr g o, h => .ptr g o (by simpa [below] using h)
  | .cut g o n c s, h => .cut g o n c s (by simpa [below] using h)
  | .mref g, h => .mref g (by simpa [below] using h)
  | .iref g, h => .iref g (by simpa [below] using h)
  | .agg cs, h => .agg cs (scoped_all (by simpa [below] using h))
  | .fn f cs, h => .fn f cs (scoped_all (by simpa [below] using h))
  | .bnd f r, h => .bnd f r (scoped_of (by simpa [below] using h))
  | .data x, _ => .data x
  | .emp n, _ => .emp n
  | .cptr c, _ => .cptr c
  | .junk, _ => .junk
theorem scoped_all {k : Nat} : ∀ {l : List D}, below.allBelow k l = true → ∀ (i : Nat) (x : D), l[i]? = some x → Scoped k x
  | d :: l, h, 0, x, hx => by
    simp only [below.allBelow, Bool.and_eq_true] at h
    simp only [List.getElem?_cons_zero, Option.some.injEq] at hx
    subst hx
    exact scoped_of h.1
  | d :: l, h, i + 1, x, hx => by
    simp only [below.allBelow, Bool.and_eq_true] at h
    exact scoped_all h.2 i x (by simpa using hx)
end
@[go_sem] theorem below_data (k : Nat) (x : Data) : below k (.data x) = true := rfl
@[go_sem] theorem below_ref (k g o n s : Nat) : below k (.ref g o n s) = decide (g < k) := rfl
@[go_sem] theorem below_ptr (k g o : Nat) : below k (.ptr g o) = decide (g < k) := rfl
@[go_sem] theorem below_cut (k g o n c s : Nat) : below k (.cut g o n c s) = decide (g < k) := rfl
@[go_sem] theorem below_mref (k g : Nat) : below k (.mref g) = decide (g < k) := rfl
@[go_sem] theorem below_iref (k g : Nat) : below k (.iref g) = decide (g < k) := rfl
@[go_sem] theorem below_emp (k n : Nat) : below k (.emp n) = true := rfl
@[go_sem] theorem below_cptr (k : Nat) (c : List Data) : below k (.cptr c) = true := rfl
@[go_sem] theorem below_fn (k : Nat) (f : FuncId) (c : List D) : below k (.fn f c) = below.allBelow k c := rfl
@[go_sem] theorem below_bnd (k : Nat) (f : FuncId) (r : D) : below k (.bnd f r) = below k r := rfl
@[go_sem] theorem below_agg (k : Nat) (c : List D) : below k (.agg c) = below.allBelow k c := rfl
@[go_sem] theorem allBelow_nil (k : Nat) : below.allBelow k [] = true := rfl
@[go_sem] theorem allBelow_cons (k : Nat) (d : D) (l : List D) : below.allBelow k (d :: l) = (below k d && below.allBelow k l) := rfl
@[go_sem] theorem allBelow_rep (k n : Nat) (x : Data) : below.allBelow k (List.replicate n (.data x)) = true := by
  induction n with
  | zero => rfl
  | succ n ih => simp [List.replicate_succ, below.allBelow, below, ih]
@[go_sem] theorem allBelow_map (k : Nat) (l : List Data) : below.allBelow k (l.map .data) = true := by
  induction l with
  | nil => rfl
  | cons x l ih => simp [below.allBelow, below, ih]
@[go_sem] def blkBelow (k : Nat) : Blk → Bool
  | .blk _ cells => below.allBelow k cells
  | .obj (.mp _ xs) => below.allBelow k xs
  | .obj (.it _ _ _ _) => true
  | .dead => true
theorem weak_lists {e : Nat → D} {H : Nat → Blk} {nx lo nt : Nat} (L : List (Nat × D)) (M : List (Nat × Blk)) (n : Nat) (hL : ∀ p ∈ L, e p.1 = p.2) (hM : ∀ p ∈ M, H p.1 = p.2) (hn : n ≤ nx) (hlo : lo ≤ n) (hs : ∀ p ∈ L, below n p.2 = true) (hb : ∀ p ∈ M, p.1 < n ∧ blkBelow n p.2 = true) :
    Weak ⟨e, H, nx, lo, nt⟩ ⟨envL L, hpL M, n, lo, nt⟩ := by
  have env : ∀ (L : List (Nat × D)), (∀ p ∈ L, e p.1 = p.2) → ∀ t, envL L t = .junk ∨ (envL L t = e t ∧ (t, e t) ∈ L) := by
    intro L
    induction L with
    | nil => exact fun _ t => .inl rfl
    | cons p L ih =>
      intro h t
      obtain ⟨k, d⟩ := p
      by_cases ht : t = k
      · subst ht
        have := h (t, d) (by simp)
        simp only at this
        exact .inr ⟨by simp [envL, this], by simp [this]⟩
      · rcases ih (fun p hp => h p (by simp [hp])) t with q | q
        · exact .inl (by simp [envL, ht, q])
        · exact .inr ⟨by simp [envL, ht, q.1], by simp [q.2]⟩
  have hps : ∀ (M : List (Nat × Blk)), (∀ p ∈ M, H p.1 = p.2) → ∀ t, hpL M t = .dead ∨ (hpL M t = H t ∧ (t, H t) ∈ M) := by
    intro M
    induction M with
    | nil => exact fun _ t => .inl rfl
    | cons p M ih =>
      intro h t
      obtain ⟨k, d⟩ := p
      by_cases ht : t = k
      · subst ht
        have := h (t, d) (by simp)
        simp only at this
        exact .inr ⟨by simp [hpL, this], by simp [this]⟩
      · rcases ih (fun p hp => h p (by simp [hp])) t with q | q
        · exact .inl (by simp [hpL, ht, q])
        · exact .inr ⟨by simp [hpL, ht, q.1], by simp [q.2]⟩
  refine ⟨fun t => ?_, fun g => ?_, hn, rfl, hlo, rfl, fun g hg => ?_, .inr ⟨fun t => ?_, fun g rw cells hg d hd => ?_, fun g o hg => ?_⟩⟩
  · rcases env L hL t with q | q
    · exact .inr q
    · exact .inl q.1
  · rcases hps M hM g with q | q
    · exact .inr q
    · exact .inl q.1
  · rcases hps M hM g with q | q
    · exact q
    · have := (hb _ q.2).1
      simp only at this hg
      omega
  · rcases env L hL t with q | q
    · simp only [q]; exact .junk
    · simp only [q.1]; exact scoped_of (hs _ q.2)
  · rcases hps M hM g with q | q
    · simp only [q] at hg; cases hg
    · have h2 := (hb _ q.2).2
      simp only [q.1] at hg
      simp only [hg, blkBelow] at h2
      obtain ⟨i, hi⟩ := List.getElem?_of_mem hd
      exact scoped_all h2 i d hi
  · rcases hps M hM g with q | q
    · simp only [q] at hg; cases hg
    · have h2 := (hb _ q.2).2
      simp only [q.1] at hg
      simp only [hg] at h2
      cases o with
      | it => trivial
      | mp ks xs =>
        intro d hd
        obtain ⟨i, hi⟩ := List.getElem?_of_mem hd
        exact scoped_all h2 i d hi
/-- New numbers by a list. -/
def rhoL : List (Nat × Option Nat) → Nat → Option Nat
  | [], g => some g
  | (k, o) :: l, g => if g = k then o else rhoL l g
@[go_sem] theorem rhoL_nil (g : Nat) : rhoL [] g = some g := rfl
@[go_sem] theorem rhoL_cons (k : Nat) (o : Option Nat) (l : List (Nat × Option Nat)) (g : Nat) : rhoL ((k, o) :: l) g = if g = k then o else rhoL l g := rfl
@[go_sem] theorem fzH_eq (H : Nat → Blk) (F : List Nat) (g : Nat) : fzH H F g = if g ∈ F then fz (H g) else H g := rfl
section
variable {n : Nat} {ρ : Nat → Option Nat} {H : Nat → Blk}
def RenCells (n : Nat) (ρ : Nat → Option Nat) (H : Nat → Blk) (cs ds : List D) : Prop := cs.length ≤ ds.length ∧ ∀ (i : Nat) (c d : D), cs[i]? = some c → ds[i]? = some d → Ren n ρ H c d
@[go_sem] theorem renCells_nil (ds : List D) : RenCells n ρ H [] ds ↔ True := iff_true_intro ⟨by simp, fun i c d h => by simp at h⟩
@[go_sem] theorem renCells_cons (c d : D) (cs ds : List D) : RenCells n ρ H (c :: cs) (d :: ds) ↔ Ren n ρ H c d ∧ RenCells n ρ H cs ds := by
  constructor
  · rintro ⟨h1, h2⟩
    exact ⟨h2 0 c d rfl rfl, by simpa using h1, fun i c' d' hc hd => h2 (i + 1) c' d' (by simpa using hc) (by simpa using hd)⟩
  · rintro ⟨h1, h2, h3⟩
    refine ⟨by simpa using h2, fun i c' d' hc hd => ?_⟩
    match i with
    | 0 => simp at hc hd; subst hc; subst hd; exact h1
    | i + 1 => exact h3 i c' d' (by simpa using hc) (by simpa using hd)
theorem renCells_datas {cs : List D} (h : ∀ c ∈ cs, ∃ x, c = .data x) : RenCells n ρ H cs cs := ⟨Nat.le_refl _, fun i c d hc hd => by
  rw [hc] at hd; cases hd
  obtain ⟨x, rfl⟩ := h c (List.mem_of_getElem? hc)
  exact .data x⟩
theorem renCells_eq {l m : List Data} (h : l = m) : RenCells n ρ H (l.map D.data) (m.map D.data) := by
  subst h
  exact renCells_datas fun c hc => by obtain ⟨x, _, rfl⟩ := List.mem_map.1 hc; exact ⟨x, rfl⟩
@[go_sem] theorem renCells_map (l : List Data) : RenCells n ρ H (l.map D.data) (l.map D.data) ↔ True := iff_true_intro (renCells_eq rfl)
@[go_sem] theorem ren_data (x y : Data) : Ren n ρ H (.data x) (.data y) ↔ x = y := by
  constructor
  · intro h
    cases h with
    | data => rfl
    | frz _ _ h => cases h; rfl
  · rintro rfl; exact .data x
@[go_sem] theorem ren_ref (g off len es o off' len' es' : Nat) : Ren n ρ H (.ref g off len es) (.ref o off' len' es') ↔ g < n ∧ ρ g = some o ∧ off = off' ∧ len = len' ∧ es = es' := by
  constructor
  · intro h
    cases h with
    | ref _ _ _ _ _ h1 h2 => exact ⟨h1, h2, rfl, rfl, rfl⟩
  · rintro ⟨h1, h2, rfl, rfl, rfl⟩; exact .ref _ _ _ _ _ h1 h2
@[go_sem] theorem ren_refnil (g off len es es' : Nat) : Ren n ρ H (.ref g off len es) (.emp es') ↔ g < n ∧ ρ g = none ∧ off = 0 ∧ len = 0 := by
  constructor
  · intro h
    cases h with
    | nil _ _ _ h1 h2 => exact ⟨h1, h2, rfl, rfl⟩
  · rintro ⟨h1, h2, rfl, rfl⟩; exact .nil _ _ _ h1 h2
@[go_sem] theorem ren_cut (g off len cp es o off' len' cp' es' : Nat) : Ren n ρ H (.cut g off len cp es) (.cut o off' len' cp' es') ↔ g < n ∧ ρ g = some o ∧ off = off' ∧ len = len' ∧ cp = cp' ∧ es = es' := by
  constructor
  · intro h; cases h with | cut _ _ _ _ _ _ h1 h2 => exact ⟨h1, h2, rfl, rfl, rfl, rfl⟩
  · rintro ⟨h1, h2, rfl, rfl, rfl, rfl⟩; exact .cut _ _ _ _ _ _ h1 h2
@[go_sem] theorem ren_uncut (g off len es o off' len' cp' es' : Nat) : Ren n ρ H (.ref g off len es) (.cut o off' len' cp' es') ↔ g < n ∧ ρ g = some o ∧ off = off' ∧ len = len' ∧ es = es' := by
  constructor
  · intro h; cases h with | uncut _ _ _ _ _ _ h1 h2 => exact ⟨h1, h2, rfl, rfl, rfl⟩
  · rintro ⟨h1, h2, rfl, rfl, rfl⟩; exact .uncut _ _ _ _ _ _ h1 h2
@[go_sem] theorem ren_mref (g o : Nat) : Ren n ρ H (.mref g) (.mref o) ↔ g < n ∧ ρ g = some o := by
  constructor
  · intro h; cases h with | mref _ _ h1 h2 => exact ⟨h1, h2⟩
  · rintro ⟨h1, h2⟩; exact .mref _ _ h1 h2
@[go_sem] theorem ren_iref (g o : Nat) : Ren n ρ H (.iref g) (.iref o) ↔ g < n ∧ ρ g = some o := by
  constructor
  · intro h; cases h with | iref _ _ h1 h2 => exact ⟨h1, h2⟩
  · rintro ⟨h1, h2⟩; exact .iref _ _ h1 h2
@[go_sem] theorem ren_ptr (g off o off' : Nat) : Ren n ρ H (.ptr g off) (.ptr o off') ↔ g < n ∧ ρ g = some o ∧ off = off' := by
  constructor
  · intro h
    cases h with
    | ptr _ _ _ h1 h2 => exact ⟨h1, h2, rfl⟩
  · rintro ⟨h1, h2, rfl⟩; exact .ptr _ _ _ h1 h2
@[go_sem] theorem ren_junk (d : D) : Ren n ρ H .junk d ↔ True := iff_true_intro (.junk d)
@[go_sem] theorem ren_cptr (c d : List Data) : Ren n ρ H (.cptr c) (.cptr d) ↔ c = d := by
  constructor
  · intro h; cases h; rfl
  · rintro rfl; exact .cptr c
@[go_sem] theorem ren_emp (a b : Nat) : Ren n ρ H (.emp a) (.emp b) ↔ True := iff_true_intro (.emp a b)
@[go_sem] theorem ren_frzref (x : Data) (g off len es : Nat) : Ren n ρ H (.data x) (.ref g off len es) ↔ Frz false H (.ref g off len es) x := by
  constructor
  · intro h
    cases h with
    | frz _ _ h => exact h
  · exact .frz _ _
@[go_sem] theorem ren_frzemp (x : Data) (es : Nat) : Ren n ρ H (.data x) (.emp es) ↔ ∃ es', x = .sl es' [] := by
  constructor
  · intro h
    cases h with
    | frz _ _ h => cases h with | emp _ es' => exact ⟨es', rfl⟩
  · rintro ⟨es', rfl⟩; exact .frz _ _ (.emp es es')
@[go_sem] theorem ren_frzagg (x : Data) (cs : List D) : Ren n ρ H (.data x) (.agg cs) ↔ Frz false H (.agg cs) x := by
  constructor
  · intro h
    cases h with
    | frz _ _ h => exact h
  · exact .frz _ _
end
/-- A row under its new number. -/
def RenK (n : Nat) (R : List (Nat × Option Nat)) (H : Nat → Blk) (rw : Bool) (cells : List D) : Blk → Prop
  | .dead => False
  | .obj _ => False
  | .blk rw' cells' => rw = rw' ∧ RenCells n (rhoL R) H cells cells'
def RenO (n : Nat) (R : List (Nat × Option Nat)) (H : Nat → Blk) (rw : Bool) (cells : List D) : Option Nat → Prop
  | some o => RenK n R H rw cells (H o)
  | none => cells = []
def RenS (n : Nat) (R : List (Nat × Option Nat)) (H : Nat → Blk) (o2 : Ob) : Blk → Prop
  | .obj o1 => RenOb n (rhoL R) H o2 o1
  | _ => False
def RenP (n : Nat) (R : List (Nat × Option Nat)) (H : Nat → Blk) (o2 : Ob) : Option Nat → Prop
  | some o => RenS n R H o2 (H o)
  | none => False
def RenB (n : Nat) (R : List (Nat × Option Nat)) (H : Nat → Blk) (g : Nat) : Blk → Prop
  | .dead => True
  | .blk rw cells => g < n ∧ RenO n R H rw cells (rhoL R g)
  | .obj o => g < n ∧ RenP n R H o (rhoL R g)
@[go_sem] theorem renB_obj (n : Nat) (R : List (Nat × Option Nat)) (H : Nat → Blk) (g : Nat) (o : Ob) : RenB n R H g (.obj o) ↔ g < n ∧ RenP n R H o (rhoL R g) := Iff.rfl
@[go_sem] theorem renP_some (n : Nat) (R : List (Nat × Option Nat)) (H : Nat → Blk) (o2 : Ob) (o : Nat) : RenP n R H o2 (some o) ↔ RenS n R H o2 (H o) := Iff.rfl
@[go_sem] theorem renS_mp (n : Nat) (R : List (Nat × Option Nat)) (H : Nat → Blk) (ks ks' : List Data) (xs ys : List D) : RenS n R H (.mp ks xs) (.obj (.mp ks' ys)) ↔ ks = ks' ∧ xs.length = ys.length ∧ RenCells n (rhoL R) H xs ys := by
  constructor
  · intro h; cases h with | mp _ _ _ hl hh => exact ⟨rfl, hl, by omega, hh⟩
  · rintro ⟨rfl, hl, _, hh⟩; exact .mp _ _ _ hl hh
@[go_sem] theorem renS_it (n : Nat) (R : List (Nat × Option Nat)) (H : Nat → Blk) (ks xs ks' xs' : List Data) (l l' : List Nat) (c c' : Option Nat) : RenS n R H (.it ks xs l c) (.obj (.it ks' xs' l' c')) ↔ ks = ks' ∧ xs = xs' ∧ l = l' ∧ c = c' := by
  constructor
  · intro h; cases h; exact ⟨rfl, rfl, rfl, rfl⟩
  · rintro ⟨rfl, rfl, rfl, rfl⟩; exact .it _ _ _ _
@[go_sem] theorem renK_blk (n : Nat) (R : List (Nat × Option Nat)) (H : Nat → Blk) (rw : Bool) (cells : List D) (rw' : Bool) (cells' : List D) : RenK n R H rw cells (.blk rw' cells') ↔ rw = rw' ∧ RenCells n (rhoL R) H cells cells' := Iff.rfl
@[go_sem] theorem renO_some (n : Nat) (R : List (Nat × Option Nat)) (H : Nat → Blk) (rw : Bool) (cells : List D) (o : Nat) : RenO n R H rw cells (some o) ↔ RenK n R H rw cells (H o) := Iff.rfl
@[go_sem] theorem renO_none (n : Nat) (R : List (Nat × Option Nat)) (H : Nat → Blk) (rw : Bool) (cells : List D) : RenO n R H rw cells none ↔ cells = [] := Iff.rfl
@[go_sem] theorem renB_dead (n : Nat) (R : List (Nat × Option Nat)) (H : Nat → Blk) (g : Nat) : RenB n R H g .dead ↔ True := Iff.rfl
@[go_sem] theorem renB_blk (n : Nat) (R : List (Nat × Option Nat)) (H : Nat → Blk) (g : Nat) (rw : Bool) (cells : List D) : RenB n R H g (.blk rw cells) ↔ g < n ∧ RenO n R H rw cells (rhoL R g) := Iff.rfl
theorem nodup_inj {α : Type} (f : α → Option Nat) (k : α → Nat) : ∀ l : List α, (l.filterMap f).Nodup → ∀ p ∈ l, ∀ q ∈ l, ∀ o, f p = some o → f q = some o → k p = k q
  | [], _, p, hp, _, _, _, _, _ => by simp at hp
  | a :: l, h, p, hp, q, hq, o, e1, e2 => by
    have ht : (l.filterMap f).Nodup := by
      rw [List.filterMap_cons] at h
      split at h
      · exact h
      · exact (List.nodup_cons.1 h).2
    have hn : ∀ x ∈ l, f a = some o → f x = some o → False := fun x hx ea ex => by
      rw [List.filterMap_cons_some ea] at h
      exact (List.nodup_cons.1 h).1 (List.mem_filterMap.2 ⟨x, hx, ex⟩)
    rcases List.mem_cons.1 hp with ep | hp <;> rcases List.mem_cons.1 hq with eq | hq
    · rw [ep, eq]
    · rw [ep] at e1; exact (hn q hq e1 e2).elim
    · rw [eq] at e2; exact (hn p hp e2 e1).elim
    · exact nodup_inj f k l ht p hp q hq o e1 e2
theorem ren_lists {e : Nat → D} {H : Nat → Blk} {nx lo nt : Nat} {F : List Nat} (R : List (Nat × Option Nat)) (L : List (Nat × D)) (M : List (Nat × Blk)) (n : Nat) (hL : ∀ p ∈ L, Ren n (rhoL R) (fzH H F) p.2 (e p.1)) (hM : ∀ p ∈ M, RenB n R (fzH H F) p.1 p.2)
    (hi : (M.filterMap fun p => rhoL R p.1).Nodup) (hlo : lo ≤ n) (hf : ∀ p ∈ R, lo ≤ p.1) :
    WeakR F (rhoL R) ⟨e, H, nx, lo, nt⟩ ⟨envL L, hpL M, n, lo, nt⟩ := by
  have env : ∀ (L : List (Nat × D)), (∀ p ∈ L, Ren n (rhoL R) (fzH H F) p.2 (e p.1)) → ∀ t, Ren n (rhoL R) (fzH H F) (envL L t) (e t) := by
    intro L
    induction L with
    | nil => exact fun _ t => .junk _
    | cons p L ih =>
      intro h t
      obtain ⟨k, d⟩ := p
      by_cases ht : t = k
      · subst ht
        have := h (t, d) (by simp)
        simpa [envL] using this
      · simp only [envL, ht, if_false]
        exact ih (fun p hp => h p (by simp [hp])) t
  have blk : ∀ (M : List (Nat × Blk)) (g : Nat) (b : Blk), hpL M g = b → b = .dead ∨ (g, b) ∈ M := by
    intro M
    induction M with
    | nil => intro g b h; exact .inl h.symm
    | cons p M ih =>
      intro g b h
      obtain ⟨k, d⟩ := p
      by_cases hg : g = k
      · subst hg
        simp only [hpL, if_true] at h
        subst h
        exact .inr (by simp)
      · simp only [hpL, hg, if_false] at h
        rcases ih g b h with h | h
        · exact .inl h
        · exact .inr (by simp [h])
  have fix : ∀ (R : List (Nat × Option Nat)), (∀ p ∈ R, lo ≤ p.1) → ∀ g, g < lo → rhoL R g = some g := by
    intro R
    induction R with
    | nil => exact fun _ g _ => rfl
    | cons p R ih =>
      intro h g hg
      obtain ⟨k, o⟩ := p
      have := h (k, o) (by simp)
      simp only [rhoL, show ¬ g = k by simp only at this; omega, if_false]
      exact ih (fun p hp => h p (by simp [hp])) g hg
  refine ⟨env L hL, fun g rw cells hg => ?_, fun g g' o cells rw cells' hg hg' ho ho' => ?_, fun g o2 hg => ?_, fun g g' o p p' hg hg' ho ho' => ?_, rfl, hlo, fun g hg => fix R hf g hg, rfl⟩
  rotate_left 2
  · rcases blk M g _ hg with h | h
    · cases h
    · obtain ⟨h1, h2⟩ := hM _ h
      refine ⟨h1, ?_⟩
      simp only at h2
      cases ho : rhoL R g with
      | some o =>
        rw [ho] at h2
        have h3 : RenS n R (fzH H F) o2 (fzH H F o) := h2
        cases hb : fzH H F o with
        | dead => rw [hb] at h3; exact h3.elim
        | blk => rw [hb] at h3; exact h3.elim
        | obj o1 =>
          rw [hb] at h3
          refine ⟨o, o1, rfl, ?_, h3⟩
          show H o = .obj o1
          unfold fzH at hb
          split at hb
          · cases hH : H o with
            | dead => rw [hH] at hb; cases hb
            | blk => rw [hH] at hb; cases hb
            | obj o3 => rw [hH] at hb; exact hb
          · exact hb
      | none => rw [ho] at h2; exact h2.elim
  · rcases blk M g _ hg with h | h
    · cases h
    · rcases blk M g' _ hg' with h' | h'
      · cases h'
      · exact nodup_inj (fun p : Nat × Blk => rhoL R p.1) (fun p => p.1) M hi _ h _ h' o ho ho'
  · rcases blk M g _ hg with h | h
    · cases h
    · obtain ⟨h1, h2⟩ := hM _ h
      refine ⟨h1, ?_⟩
      simp only at h2
      cases ho : rhoL R g with
      | some o =>
        rw [ho] at h2
        have h3 : RenK n R (fzH H F) rw cells (fzH H F o) := h2
        cases hb : fzH H F o with
        | dead => rw [hb] at h3; exact h3.elim
        | obj o => rw [hb] at h3; exact h3.elim
        | blk rw' cells' =>
          rw [hb] at h3
          obtain ⟨rfl, h4, h5⟩ := h3
          exact .inl ⟨o, cells', rfl, hb, h4, h5⟩
      | none => rw [ho] at h2; exact .inr ⟨rfl, h2⟩
  · rcases blk M g _ hg with h | h
    · cases h
    · rcases blk M g' _ hg' with h' | h'
      · cases h'
      · exact nodup_inj (fun p : Nat × Blk => rhoL R p.1) (fun p => p.1) M hi _ h _ h' o ho ho'
end Go.Proofs.Ytedcnbkhdkchoaa
