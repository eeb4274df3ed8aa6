/- Plain mathematics of a digest, continued: what the statements say of pads, blocks and bytes, of no program. -/
import Derived.Test.YtlfmgellojjndaaDoorMd5M
namespace Go.Proofs.YtlfmgellojjndaaDoor.M5
set_option linter.unusedVariables false
set_option linter.unusedSimpArgs false

theorem sum_none : sum [] = [212, 29, 140, 217, 143, 0, 178, 4, 233, 128, 9, 152, 236, 248, 66, 126] := by decide +kernel
theorem sum_abc : sum [97, 98, 99] = [144, 1, 80, 152, 60, 210, 79, 176, 214, 150, 63, 125, 40, 225, 127, 114] := by decide +kernel
theorem sum_length (l : List Nat) : (sum l).length = 16 := by simp [sum]
theorem sum_at (l : List Nat) (i : Nat) (h : i < 16) : (sum l)[i]? = some (outb (final l) i) := by simp [sum, h]
theorem outb_lt (t : St) (i : Nat) : outb t i < 256 := Nat.mod_lt _ (by decide)
theorem sum_lt (l : List Nat) : ∀ x ∈ sum l, x < 256 := by
  intro x hx
  simp only [sum, List.mem_map] at hx
  obtain ⟨i, _, rfl⟩ := hx
  exact outb_lt _ _
theorem four (x : Nat) (h : x < 4294967296) : x % 256 + 256 * (x / 256 % 256) + 65536 * (x / 65536 % 256) + 16777216 * (x / 16777216 % 256) = x := by omega
theorem at_lt4 {t : St} (h : t.ok) (i : Nat) : t.at i < 4294967296 := by
  obtain ⟨h0, h1, h2, h3⟩ := h
  unfold St.at
  split
  · exact h0
  · exact h1
  · exact h2
  · exact h3
/-- A digest's four bytes, the lowest first, are a state's word. -/
theorem outb_word {t : St} (h : t.ok) (i : Nat) : outb t (4 * i) + 256 * outb t (4 * i + 1) + 65536 * outb t (4 * i + 2) + 16777216 * outb t (4 * i + 3) = t.at i := by
  have e0 : 4 * i / 4 = i := by omega
  have e1 : (4 * i + 1) / 4 = i := by omega
  have e2 : (4 * i + 2) / 4 = i := by omega
  have e3 : (4 * i + 3) / 4 = i := by omega
  have m0 : 4 * i % 4 = 0 := by omega
  have m1 : (4 * i + 1) % 4 = 1 := by omega
  have m2 : (4 * i + 2) % 4 = 2 := by omega
  have m3 : (4 * i + 3) % 4 = 3 := by omega
  unfold outb
  rw [e0, e1, e2, e3, m0, m1, m2, m3]
  simpa using four (t.at i) (at_lt4 h i)
theorem final_ok (l : List Nat) : (final l).ok := blocks_ok first_ok _ _

theorem le8_inj {a b : Nat} (ha : a < 4294967296) (hb : b < 4294967296) (h : le8 a = le8 b) : a = b := by
  simp only [le8, List.cons.injEq, and_true] at h
  omega
theorem le8_length (n : Nat) : (le8 n).length = 8 := rfl
theorem pad_inj {l m : List Nat} (hl : l.length ≤ 100000000) (hm : m.length ≤ 100000000) : pad l = pad m ↔ l = m := by
  refine ⟨fun h => ?_, fun h => by rw [h]⟩
  unfold pad at h
  obtain ⟨h1, h2⟩ := List.append_inj' h rfl
  have e := le8_inj (by omega) (by omega) h2
  have e1 : l.length = m.length := by omega
  rw [List.append_assoc, List.append_assoc] at h1
  exact (List.append_inj h1 e1).1
theorem pad_take (l : List Nat) : (pad l).take l.length = l := by
  unfold pad
  rw [List.append_assoc, List.append_assoc, List.take_left']
  rfl
theorem pad_one (l : List Nat) : (pad l)[l.length]? = some 128 := by
  unfold pad
  rw [List.append_assoc, List.append_assoc, List.getElem?_append_right (Nat.le_refl _)]
  simp
theorem pad_noughts (l : List Nat) (i : Nat) (h : i < pz l.length) : (pad l)[l.length + 1 + i]? = some 0 := by
  unfold pad
  rw [List.append_assoc, List.append_assoc, List.getElem?_append_right (by omega), show l.length + 1 + i - l.length = i + 1 by omega]
  rw [List.singleton_append, List.getElem?_cons_succ, List.getElem?_append_left (by simpa using h)]
  simp [h]
theorem pad_last (l : List Nat) (i : Nat) (h : i < 8) : (pad l)[l.length + 1 + pz l.length + i]? = (le8 (8 * l.length))[i]? := by
  unfold pad
  rw [List.getElem?_append_right (by simp; omega)]
  congr 1
  simp
  omega
/-- The bits of the last eight bytes, counted from the highest. -/
theorem le8_sum (n : Nat) (h : n < 18446744073709551616) : (((((((n / 72057594037927936 % 256) * 256 + n / 281474976710656 % 256) * 256 + n / 1099511627776 % 256) * 256 + n / 4294967296 % 256) * 256 + n / 16777216 % 256) * 256 + n / 65536 % 256) * 256 + n / 256 % 256) * 256 + n % 256 = n := by omega

/-- A block, that often. -/
def iter (s : St) (m : List Nat) : Nat → St
  | 0 => s
  | k + 1 => block (iter s m k) m
theorem iter_ok {s : St} (h : s.ok) (m : List Nat) : ∀ k, (iter s m k).ok
  | 0 => h
  | k + 1 => block_ok _ _
def reps (m : List Nat) (k : Nat) : List Nat := (List.replicate k m).flatten
theorem reps_succ (m : List Nat) (k : Nat) : reps m (k + 1) = reps m k ++ m := by
  unfold reps
  rw [List.replicate_succ', List.flatten_append]
  simp
theorem reps_length {m : List Nat} (hm : m.length = 64) : ∀ k, (reps m k).length = 64 * k
  | 0 => rfl
  | k + 1 => by rw [reps_succ, List.length_append, reps_length hm k, hm]; omega
theorem reps_split (m : List Nat) (j k : Nat) (h : j < k) : ∃ r, reps m k = reps m j ++ m ++ r := by
  refine ⟨reps m (k - j - 1), ?_⟩
  have e : k = j + 1 + (k - j - 1) := by omega
  conv => lhs; rw [e]
  unfold reps
  rw [← List.replicate_append_replicate, List.flatten_append, List.replicate_succ', List.flatten_append]
  simp
theorem reps_lt {m : List Nat} (h : ∀ x ∈ m, x < 256) (k : Nat) : ∀ x ∈ reps m k, x < 256 := by
  intro x hx
  unfold reps at hx
  simp only [List.mem_flatten, List.mem_replicate] at hx
  obtain ⟨y, ⟨_, rfl⟩, hx⟩ := hx
  exact h x hx
theorem blocks_reps {m : List Nat} (hm : m.length = 64) (s : St) (k : Nat) (q : List Nat) : ∀ j, j ≤ k → blocks s (reps m k ++ q) j = iter s m j
  | 0, _ => rfl
  | j + 1, h => by
    show block (blocks s (reps m k ++ q) j) _ = block (iter s m j) m
    rw [blocks_reps hm s k q j (by omega)]
    congr 1
    obtain ⟨r, hr⟩ := reps_split m j k (by omega)
    rw [hr, List.append_assoc, List.append_assoc, List.drop_left' (by rw [reps_length hm]), List.take_left' hm]
theorem pad_reps (m : List Nat) (k : Nat) (b : List Nat) : ∃ q, pad (reps m k ++ b) = reps m k ++ q := ⟨b ++ [128] ++ List.replicate (pz (reps m k ++ b).length) 0 ++ le8 (8 * (reps m k ++ b).length), by unfold pad; simp⟩
theorem final_reps {m : List Nat} (hm : m.length = 64) (k : Nat) (b : List Nat) : blocks first (pad (reps m k ++ b)) k = iter first m k := by
  obtain ⟨q, hq⟩ := pad_reps m k b
  rw [hq]
  exact blocks_reps hm first k q k (Nat.le_refl _)
theorem pad_take_reps {m : List Nat} (hm : m.length = 64) (k : Nat) (b : List Nat) : (pad (reps m k ++ b)).take (64 * k) = reps m k := by
  obtain ⟨q, hq⟩ := pad_reps m k b
  rw [hq, List.take_left' (reps_length hm k)]
end Go.Proofs.YtlfmgellojjndaaDoor.M5
