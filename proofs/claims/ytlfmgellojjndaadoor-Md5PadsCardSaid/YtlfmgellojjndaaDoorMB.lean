import Derived.Test.YtlfmgellojjndaaDoorMA
import Derived.KernelRfl
namespace Go.Proofs.YtlfmgellojjndaaDoor
open Go.RowKit
set_option linter.unusedVariables false
set_option linter.unusedSimpArgs false
def ws (l : List Nat) (i : Nat) : List Data := (List.range 16).map fun g => u32 (M5.word (l.take i) g)
@[go_sem] theorem ws_length (l : List Nat) (i : Nat) : (ws l i).length = 16 := by simp [ws]
theorem ws_cell (l : List Nat) (i : Nat) : ∀ x ∈ ws l i, x.cell = true := fun x hx => by
  obtain ⟨j, _, rfl⟩ := List.mem_map.1 hx
  rfl
theorem ws_zero (l : List Nat) : ws l 0 = List.replicate 16 (u32 0) := by simp [ws, M5.word]; rfl
theorem ws_at (l : List Nat) (i : Nat) (h : i < 64) : (ws l i)[((i : Int) / 4).toNat]? = some (.int .u32 (M5.word (l.take i) (i / 4) : Nat)) := by
  have : ((i : Int) / 4).toNat = i / 4 := by omega
  rw [this]
  have h4 : i / 4 < 16 := by omega
  simp [ws, h4, u32]
theorem take_getD (l : List Nat) (i j : Nat) : (l.take i).getD j 0 = if j < i then l.getD j 0 else 0 := by
  simp only [List.getD_eq_getElem?_getD, List.getElem?_take]
  split <;> rfl
theorem word_step_nat (l : List Nat) (i : Nat) (hi : i < l.length) (hb : ∀ x ∈ l, x < 256) : M5.word (l.take (i + 1)) (i / 4) = M5.word (l.take i) (i / 4) ||| l[i] * 2 ^ (8 * (i % 4)) := by
  have hg : ∀ j, l.getD j 0 < 256 := M5.getD_lt hb
  have hx : l.getD i 0 = l[i] := by simp [List.getD_eq_getElem?_getD, hi]
  generalize l[i] = y at hx
  subst hx
  unfold M5.word
  simp only [take_getD]
  obtain ⟨g, r, rfl, hr⟩ : ∃ g r, i = 4 * g + r ∧ r < 4 := ⟨i / 4, i % 4, by omega, by omega⟩
  have e1 : (4 * g + r) / 4 = g := by omega
  have e2 : (4 * g + r) % 4 = r := by omega
  rw [e1, e2]
  have h0 := hg (4 * g); have h1 := hg (4 * g + 1); have h2 := hg (4 * g + 2); have h3 := hg (4 * g + 3)
  match r, hr with
  | 0, _ =>
    simp only [Nat.add_zero]
    generalize l.getD (4 * g) 0 = a at *
    generalize l.getD (4 * g + 1) 0 = b at *
    generalize l.getD (4 * g + 2) 0 = c at *
    generalize l.getD (4 * g + 3) 0 = d at *
    repeat (first | rw [if_pos (by omega)] | rw [if_neg (by omega)])
    simp
  | 1, _ =>
    generalize l.getD (4 * g) 0 = a at *
    generalize l.getD (4 * g + 1) 0 = b at *
    generalize l.getD (4 * g + 2) 0 = c at *
    generalize l.getD (4 * g + 3) 0 = d at *
    repeat (first | rw [if_pos (by omega)] | rw [if_neg (by omega)])
    have := Nat.two_pow_add_eq_or_of_lt (i := 8) (b := a) h0 b
    rw [Nat.or_comm, Nat.mul_comm b, show (2 : Nat) ^ (8 * 1) = 2 ^ 8 from rfl]
    simp only [Nat.mul_zero, Nat.add_zero]
    rw [← this]; omega
  | 2, _ =>
    generalize l.getD (4 * g) 0 = a at *
    generalize l.getD (4 * g + 1) 0 = b at *
    generalize l.getD (4 * g + 2) 0 = c at *
    generalize l.getD (4 * g + 3) 0 = d at *
    repeat (first | rw [if_pos (by omega)] | rw [if_neg (by omega)])
    have := Nat.two_pow_add_eq_or_of_lt (i := 16) (b := a + 256 * b) (by omega) c
    rw [Nat.or_comm, Nat.mul_comm c, show (2 : Nat) ^ (8 * 2) = 2 ^ 16 from rfl]
    simp only [Nat.mul_zero, Nat.add_zero]
    rw [← this]; omega
  | 3, _ =>
    generalize l.getD (4 * g) 0 = a at *
    generalize l.getD (4 * g + 1) 0 = b at *
    generalize l.getD (4 * g + 2) 0 = c at *
    generalize l.getD (4 * g + 3) 0 = d at *
    repeat (first | rw [if_pos (by omega)] | rw [if_neg (by omega)])
    have := Nat.two_pow_add_eq_or_of_lt (i := 24) (b := a + 256 * b + 65536 * c) (by omega) d
    rw [Nat.or_comm, Nat.mul_comm d, show (2 : Nat) ^ (8 * 3) = 2 ^ 24 from rfl]
    simp only [Nat.mul_zero, Nat.add_zero]
    rw [← this]; omega
theorem word_step (l : List Nat) (i : Nat) (hi : i < l.length) (hb : ∀ x ∈ l, x < 256) :
    orI .u32 (M5.word (l.take i) (i / 4) : Nat) ((l[i] : Int) % 4294967296 * 2 ^ (8 * ((i : Int) % 4)).toNat % 4294967296) = (M5.word (l.take (i + 1)) (i / 4) : Nat) := by
  have hw : M5.word (l.take i) (i / 4) < 4294967296 := M5.word_lt (fun x hx => hb x (List.mem_of_mem_take hx)) _
  have hw' : M5.word (l.take (i + 1)) (i / 4) < 4294967296 := M5.word_lt (fun x hx => hb x (List.mem_of_mem_take hx)) _
  have hx : l[i] < 256 := hb _ (List.getElem_mem hi)
  have hk : (8 * ((i : Int) % 4)).toNat = 8 * (i % 4) := by omega
  have hp : l[i] * 2 ^ (8 * (i % 4)) < 4294967296 := by
    have : (2 : Nat) ^ (8 * (i % 4)) ≤ 2 ^ 24 := Nat.pow_le_pow_right (by omega) (by omega)
    calc l[i] * 2 ^ (8 * (i % 4)) ≤ 255 * 2 ^ 24 := Nat.mul_le_mul (by omega) this
      _ < 4294967296 := by decide
  have hz : ((l[i] : Int) % 4294967296 * 2 ^ (8 * (i % 4)) % 4294967296) = ((l[i] * 2 ^ (8 * (i % 4)) : Nat) : Int) := by
    have : (l[i] : Int) % 4294967296 = (l[i] : Int) := by omega
    rw [this]
    have h2 : ((l[i] * 2 ^ (8 * (i % 4)) : Nat) : Int) = (l[i] : Int) * 2 ^ (8 * (i % 4)) := by rw [Int.natCast_mul, Int.natCast_pow]; rfl
    rw [← h2]
    omega
  rw [hk, hz, or_u32 hw hp, word_step_nat l i hi hb]
theorem ws_set (l : List Nat) (i : Nat) (hi : i < 64) : ((ws l i).map D.data).set ((i : Int) / 4).toNat (.data (.int .u32 (M5.word (l.take (i + 1)) (i / 4) : Nat))) = (ws l (i + 1)).map D.data := by
  have : ((i : Int) / 4).toNat = i / 4 := by omega
  rw [this]
  apply List.ext_getElem?
  intro j
  rw [List.getElem?_set]
  simp only [ws, List.map_map, List.getElem?_map, List.length_map, List.length_range]
  by_cases hj : j < 16
  · by_cases e : i / 4 = j
    · subst e
      simp [hj, u32]
    · have : M5.word (l.take (i + 1)) j = M5.word (l.take i) j := by
        unfold M5.word
        simp only [take_getD]
        have a0 : (4 * j < i + 1) ↔ (4 * j < i) := by omega
        have a1 : (4 * j + 1 < i + 1) ↔ (4 * j + 1 < i) := by omega
        have a2 : (4 * j + 2 < i + 1) ↔ (4 * j + 2 < i) := by omega
        have a3 : (4 * j + 3 < i + 1) ↔ (4 * j + 3 < i) := by omega
        simp only [a0, a1, a2, a3]
      simp [e, hj, this]
  · by_cases e : i / 4 = j
    · omega
    · simp [e, hj]
set_option maxRecDepth 100000 in
theorem wordsOf_pc (Γ : Nat → Option (List Data)) (l : List Nat) (hl : l.length = 64) (hb : ∀ x ∈ l, x < 256) : PC Tryd.prog Γ 19 [.sl 1 (bys l)] (.agg (ws l 64)) := by
  refine pc_by mixed Tryd.func19 rfl (fun args w => Tryd.call19 args w) ?_
  simp -implicitDefEqProofs (disch := omega) [go_sem, Tryd.f19]
  refine loop_of (σ := { i : Nat // i ≤ 64 }) (fun i => ⟨envL [(2, .ptr 0 0), (3, .ptr 1 0), (6, .data (.sl 1 (bys l))), (7, .data (.int .i64 64)), (8, .data (.int .i64 i.1))], hpL [(0, .blk true (List.replicate 16 (.data (u32 0)))), (1, .blk true ((ws l i.1).map .data))], 5, 0, 27⟩) (fun i => 64 - i.1) ⟨0, by omega⟩ ?_ ?_
  · apply weak_lists <;> simp [go_sem, ws_zero, List.replicate, u32, hl]
  · rintro ⟨i, hi⟩
    simp -implicitDefEqProofs (disch := omega) [go_sem]
    refine ifW_dec (fun h => ?_) (fun h => ?_)
    · have h64 : i < 64 := by omega
      simp -implicitDefEqProofs (disch := omega) [go_sem, ws_at l i h64]
      refine side (by kernel_rfl) ?_
      simp -implicitDefEqProofs (disch := omega) [go_sem]
      refine next_of ⟨i + 1, by omega⟩ ?_ (by simp only; omega)
      apply weak_lists <;> simp -implicitDefEqProofs [go_sem, word_step l i (by omega) hb, ws_set l i h64]
    · have : i = 64 := by omega
      subst this
      simp -implicitDefEqProofs (disch := first | omega | (simp only [List.length_cons, List.length_nil, List.length_map, ws_length]; done)) [go_sem, take_data (ws_length l 64), take_all (ws_length l 64), all_cells (ws_cell l 64), over_map _ (ws l 64), Tryd.f19]
end Go.Proofs.YtlfmgellojjndaaDoor
