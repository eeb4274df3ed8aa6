/- Plain mathematics of a check sequence: a register of 16 bits as a natural number. -/
import Derived.Laws.BitsAllLaws
namespace Go.Proofs.Ytlmodgdglejlpaa.M

def bs (x : Nat) : Nat := (x / 2) ^^^ (if x % 2 = 1 then 33800 else 0)
def it : Nat → Nat → Nat
  | 0, x => x
  | k + 1, x => bs (it k x)
def step (s c : Nat) : Nat := it 8 (s ^^^ c)
def on : Nat → List Nat → Nat
  | s, [] => s
  | s, c :: l => on (step s c) l
def tail (l : List Nat) : List Nat := [(65535 - on 65535 l) % 256, (65535 - on 65535 l) / 256]
def put (l : List Nat) : List Nat := l ++ tail l
def good (l : List Nat) : Bool := decide (2 ≤ l.length) && (on 65535 l == 61624)

theorem xor_lt {a b : Nat} (ha : a < 65536) (hb : b < 65536) : a ^^^ b < 65536 := Nat.xor_lt_two_pow (n := 16) ha hb

theorem bs_lt {x : Nat} (h : x < 65536) : bs x < 65536 := by
  unfold bs
  refine xor_lt (by omega) ?_
  split <;> omega

theorem bs_odd {x : Nat} (h : x % 2 = 1) : bs x = (x / 2) ^^^ 33800 := by unfold bs; rw [if_pos h]
theorem bs_even {x : Nat} (h : ¬ x % 2 = 1) : bs x = x / 2 := by unfold bs; rw [if_neg h]; simp

theorem it_lt {x : Nat} (h : x < 65536) : ∀ k, it k x < 65536
  | 0 => h
  | k + 1 => bs_lt (it_lt h k)

theorem step_lt {s c : Nat} (hs : s < 65536) (hc : c < 256) : step s c < 65536 := it_lt (xor_lt hs (by omega)) 8

theorem on_lt : ∀ (l : List Nat) (s : Nat), s < 65536 → (∀ x ∈ l, x < 256) → on s l < 65536
  | [], s, hs, _ => hs
  | c :: l, s, hs, hb => on_lt l _ (step_lt hs (hb c (by simp))) (fun x hx => hb x (by simp [hx]))

theorem on_append : ∀ (a b : List Nat) (s : Nat), on s (a ++ b) = on (on s a) b
  | [], _, _ => rfl
  | c :: a, b, s => by show on (step s c) (a ++ b) = _; rw [on_append a b]; rfl

theorem on_take_succ (s : Nat) (l : List Nat) (k : Nat) (h : k < l.length) : on s (l.take (k + 1)) = step (on s (l.take k)) l[k] := by
  rw [List.take_succ_eq_append_getElem h, on_append]; rfl

/- linear over exclusive-or -/
theorem bs_xor (x y : Nat) : bs (x ^^^ y) = bs x ^^^ bs y := by
  have hd : (x ^^^ y) / 2 = (x / 2) ^^^ (y / 2) := by
    have := Nat.shiftRight_xor_distrib (a := x) (b := y) (i := 1)
    simpa [Nat.shiftRight_eq_div_pow] using this
  have hm : (x ^^^ y) % 2 = 1 ↔ ¬ (x % 2 = 1 ↔ y % 2 = 1) := Nat.xor_mod_two_eq_one
  unfold bs
  rw [hd]
  by_cases hx : x % 2 = 1 <;> by_cases hy : y % 2 = 1 <;> simp only [hm, hx, hy, if_true, if_false, not_true, not_false_iff, iff_true, iff_false, Nat.xor_zero]
  · rw [Nat.xor_assoc, ← Nat.xor_assoc 33800, Nat.xor_comm 33800 (y / 2), Nat.xor_assoc (y / 2), Nat.xor_self, Nat.xor_zero]
  · rw [Nat.xor_assoc, Nat.xor_comm (y / 2), ← Nat.xor_assoc]
  · rw [Nat.xor_assoc]

theorem it_xor : ∀ k x y, it k (x ^^^ y) = it k x ^^^ it k y
  | 0, _, _ => rfl
  | k + 1, x, y => by simp only [it, it_xor k x y, bs_xor]

theorem it_add (j : Nat) : ∀ k x, it (j + k) x = it j (it k x) := by
  induction j with
  | zero => intro k x; simp [it]
  | succ j ih => intro k x; rw [show j + 1 + k = (j + k) + 1 by omega]; simp only [it, ih]

theorem bs_zero {x : Nat} (h : x < 65536) (e : bs x = 0) : x = 0 := by
  by_cases hx : x % 2 = 1
  · rw [bs_odd hx] at e
    have : x / 2 = 33800 := by
      have := congrArg (· ^^^ 33800) e
      simpa [Nat.xor_assoc] using this
    omega
  · rw [bs_even hx] at e; omega

theorem it_zero : ∀ k x, x < 65536 → it k x = 0 → x = 0
  | 0, _, _, e => e
  | k + 1, x, h, e => it_zero k x h (bs_zero (it_lt h k) e)

theorem eq_of_xor {x y : Nat} (h : x ^^^ y = 0) : x = y := by
  have := congrArg (· ^^^ y) h
  simpa [Nat.xor_assoc] using this

theorem it_inj {k x y : Nat} (hx : x < 65536) (hy : y < 65536) (e : it k x = it k y) : x = y :=
  eq_of_xor (it_zero k _ (xor_lt hx hy) (by rw [it_xor, e, Nat.xor_self]))

/- what lies above the k lowest bits is only moved -/
theorem it_high : ∀ k y, it k (2 ^ k * y) = y
  | 0, y => by simp [it]
  | k + 1, y => by
    rw [it_add k 1, show it 1 (2 ^ (k + 1) * y) = bs (2 ^ (k + 1) * y) from rfl]
    have : 2 ^ (k + 1) * y = 2 * (2 ^ k * y) := by rw [Nat.pow_succ, Nat.mul_comm (2 ^ k) 2, Nat.mul_assoc]
    rw [bs_even (by rw [this]; omega), this, Nat.mul_div_cancel_left _ (by decide)]
    exact it_high k y

theorem two_steps (s x y : Nat) : step (step s x) y = it 16 (s ^^^ (x ^^^ (256 * y))) := by
  unfold step
  rw [show (16 : Nat) = 8 + 8 from rfl, it_add, ← Nat.xor_assoc, it_xor 8 (s ^^^ x), show 256 * y = 2 ^ 8 * y from rfl, it_high]

theorem join_eq (x y : Nat) (hx : x < 256) : x ^^^ (256 * y) = x + 256 * y := by
  have h1 := Nat.two_pow_add_eq_or_of_lt (i := 8) hx y
  have hand : x &&& (256 * y) = 0 := by
    apply Nat.eq_of_testBit_eq
    intro i
    rw [Nat.testBit_and, show 256 * y = 2 ^ 8 * y from rfl, Nat.testBit_two_pow_mul]
    by_cases h : 8 ≤ i
    · have : x.testBit i = false := Nat.testBit_lt_two_pow (Nat.lt_of_lt_of_le (show x < 2 ^ 8 from hx) (Nat.pow_le_pow_right (by omega) h))
      simp [this]
    · simp [h]
  apply Nat.eq_of_testBit_eq
  intro i
  have h2 : (x + 256 * y) = (256 * y ||| x) := by rw [← h1]; simp; omega
  rw [h2, Nat.testBit_xor, Nat.testBit_or, show 256 * y = 2 ^ 8 * y from rfl, Nat.testBit_two_pow_mul]
  by_cases h : 8 ≤ i
  · have : x.testBit i = false := Nat.testBit_lt_two_pow (Nat.lt_of_lt_of_le (show x < 2 ^ 8 from hx) (Nat.pow_le_pow_right (by omega) h))
    simp [this]
  · simp [h]

theorem xor_not {n : Nat} (h : n < 65536) : n ^^^ (65535 - n) = 65535 := by
  have e : 65535 - n = 65535 ^^^ n := by
    have h1 := BitVec.toNat_not (x := BitVec.ofNat 16 n)
    have h2 : (~~~ (BitVec.ofNat 16 n)) = BitVec.allOnes 16 ^^^ BitVec.ofNat 16 n := by
      rw [BitVec.allOnes_xor]
    rw [h2, BitVec.toNat_xor, BitVec.toNat_allOnes, BitVec.toNat_ofNat, Nat.mod_eq_of_lt (by omega)] at h1
    simp only [Nat.reducePow, Nat.reduceSub] at h1
    exact h1.symm
  rw [e, Nat.xor_comm 65535, ← Nat.xor_assoc, Nat.xor_self, Nat.zero_xor]

/- what ends with two bytes is good just if they are the check sequence -/
theorem on_two (r x y : Nat) : on r [x, y] = step (step r x) y := rfl

theorem it16_ones : it 16 65535 = 61624 := by decide +kernel

theorem two_good {r x y : Nat} (hr : r < 65536) (hx : x < 256) (hy : y < 256) :
    on r [x, y] = 61624 ↔ x = (65535 - r) % 256 ∧ y = (65535 - r) / 256 := by
  rw [on_two, two_steps, join_eq _ _ hx]
  constructor
  · intro e
    rw [← it16_ones] at e
    have h := it_inj (xor_lt hr (by omega)) (by omega) e
    have h2 : x + 256 * y = 65535 - r := by
      have e1 := congrArg (r ^^^ ·) h
      have e2 : 65535 - r = r ^^^ 65535 := by
        have := congrArg (r ^^^ ·) (xor_not hr)
        simpa [← Nat.xor_assoc] using this
      rw [e2]
      simpa [← Nat.xor_assoc] using e1
    omega
  · rintro ⟨rfl, rfl⟩
    rw [show (65535 - r) % 256 + 256 * ((65535 - r) / 256) = 65535 - r by omega, xor_not hr, it16_ones]

theorem tail_lt {l : List Nat} (x : Nat) (hx : x ∈ tail l) : x < 256 := by
  simp only [tail, List.mem_cons, List.not_mem_nil, or_false] at hx
  rcases hx with rfl | rfl <;> omega

theorem put_lt {l : List Nat} (hb : ∀ x ∈ l, x < 256) : ∀ x ∈ put l, x < 256 := by
  intro x hx
  rcases List.mem_append.1 hx with h | h
  · exact hb x h
  · exact tail_lt x h

theorem good_append {l : List Nat} {x y : Nat} (hb : ∀ x ∈ l, x < 256) (hx : x < 256) (hy : y < 256) :
    good (l ++ [x, y]) = true ↔ [x, y] = tail l := by
  unfold good tail
  rw [on_append]
  simp only [List.length_append, List.length_cons, List.length_nil, Bool.and_eq_true, decide_eq_true_eq, beq_iff_eq]
  rw [two_good (on_lt l _ (by omega) hb) hx hy]
  simp

theorem good_put {l : List Nat} (hb : ∀ x ∈ l, x < 256) : good (put l) = true := by
  have := (good_append hb (x := (65535 - on 65535 l) % 256) (y := (65535 - on 65535 l) / 256) (Nat.mod_lt _ (by omega)) (by omega)).2 rfl
  exact this

theorem snoc_two {l : List Nat} (h : 2 ≤ l.length) : ∃ m x y, l = m ++ [x, y] ∧ m = l.take (l.length - 2) := by
  refine ⟨l.take (l.length - 2), l[l.length - 2], l[l.length - 1], ?_, rfl⟩
  have h1 := List.take_append_drop (l.length - 2) l
  have h2 : l.drop (l.length - 2) = [l[l.length - 2], l[l.length - 1]] := by
    rw [List.drop_eq_getElem_cons (by omega), List.drop_eq_getElem_cons (by omega), List.drop_of_length_le (by omega)]
    simp only [show l.length - 2 + 1 = l.length - 1 by omega]
  rw [h2] at h1
  exact h1.symm

/- the document's answer: bytes end with their own check sequence -/
theorem good_iff {l : List Nat} (hb : ∀ x ∈ l, x < 256) (h : 2 ≤ l.length) : good l = true ↔ l = put (l.take (l.length - 2)) := by
  obtain ⟨m, x, y, e, hm⟩ := snoc_two h
  rw [← hm]
  rw [e] at hb
  have hx := hb x (by simp)
  have hy := hb y (by simp)
  have hbm : ∀ z ∈ m, z < 256 := fun z hz => hb z (by simp [hz])
  have := good_append hbm hx hy
  rw [← e] at this
  rw [this, e]
  unfold put
  exact ⟨fun h => by rw [h], fun h => List.append_cancel_left h⟩

/- steps of an exclusive-or -/
theorem step_xor (s o c : Nat) : step (s ^^^ o) c = step s c ^^^ step o 0 := by
  unfold step
  rw [← it_xor, Nat.xor_zero, Nat.xor_assoc, Nat.xor_comm o c, ← Nat.xor_assoc]

theorem on_xor : ∀ (l : List Nat) (s o : Nat), on (s ^^^ o) l = on s l ^^^ on o (List.replicate l.length 0)
  | [], _, _ => rfl
  | c :: l, s, o => by
    show on (step (s ^^^ o) c) l = on (step s c) l ^^^ on (step o 0) (List.replicate l.length 0)
    rw [step_xor, on_xor l]

/- two rows that differ in two bytes that stand together -/
theorem on_inj : ∀ (l : List Nat) (s o : Nat), s < 65536 → o < 65536 → (∀ x ∈ l, x < 256) → on s l = on o l → s = o
  | [], _, _, _, _, _, e => e
  | c :: l, s, o, hs, ho, hb, e => by
    have hc := hb c (by simp)
    have h := on_inj l _ _ (step_lt hs hc) (step_lt ho hc) (fun x hx => hb x (by simp [hx])) e
    unfold step at h
    have h2 := it_inj (xor_lt hs (by omega)) (xor_lt ho (by omega)) h
    have := congrArg (· ^^^ c) h2
    simpa [Nat.xor_assoc] using this

theorem two_apart {m t : List Nat} {x y x' y' : Nat} (hm : ∀ z ∈ m, z < 256) (ht : ∀ z ∈ t, z < 256) (hx : x < 256) (hy : y < 256) (hx' : x' < 256) (hy' : y' < 256)
    (e : on 65535 (m ++ [x, y] ++ t) = on 65535 (m ++ [x', y'] ++ t)) : x = x' ∧ y = y' := by
  rw [on_append, on_append, on_append, on_append] at e
  have hr := on_lt m 65535 (by omega) hm
  have two : ∀ u v, u < 256 → v < 256 → on (on 65535 m) [u, v] < 65536 := fun u v hu hv => on_lt _ _ hr (by intro z hz; simp at hz; rcases hz with rfl | rfl <;> assumption)
  have h := on_inj t _ _ (two x y hx hy) (two x' y' hx' hy') ht e
  rw [on_two, on_two, two_steps, two_steps, join_eq _ _ hx, join_eq _ _ hx'] at h
  have h2 := it_inj (xor_lt hr (by omega)) (xor_lt hr (by omega)) h
  have h3 := congrArg (on 65535 m ^^^ ·) h2
  simp only [← Nat.xor_assoc, Nat.xor_self, Nat.zero_xor] at h3
  omega

theorem tail_apart {l l' : List Nat} (hb : ∀ x ∈ l, x < 256) (hb' : ∀ x ∈ l', x < 256) (h : on 65535 l ≠ on 65535 l') : tail l ≠ tail l' := by
  intro e
  have h1 := on_lt l 65535 (by omega) hb
  have h2 := on_lt l' 65535 (by omega) hb'
  simp only [tail, List.cons.injEq, and_true] at e
  omega

end Go.Proofs.Ytlmodgdglejlpaa.M
