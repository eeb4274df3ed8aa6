/- Plain mathematics of a digest: words of 32 bits as natural numbers. -/
import Derived.Laws.BitsAllLaws
namespace Go.Proofs.YtlfmgellojjndaaDoor.M5
set_option linter.unusedVariables false
set_option linter.unusedSimpArgs false

def rot1 (x : Nat) : Nat := (x * 2 + x / 2147483648) % 4294967296
def rot : Nat → Nat → Nat
  | 0, x => x
  | n + 1, x => rot1 (rot n x)
def kt : List Nat := [
    3614090360, 3905402710, 606105819, 3250441966, 4118548399, 1200080426, 2821735955, 4249261313,
    1770035416, 2336552879, 4294925233, 2304563134, 1804603682, 4254626195, 2792965006, 1236535329,
    4129170786, 3225465664, 643717713, 3921069994, 3593408605, 38016083, 3634488961, 3889429448,
    568446438, 3275163606, 4107603335, 1163531501, 2850285829, 4243563512, 1735328473, 2368359562,
    4294588738, 2272392833, 1839030562, 4259657740, 2763975236, 1272893353, 4139469664, 3200236656,
    681279174, 3936430074, 3572445317, 76029189, 3654602809, 3873151461, 530742520, 3299628645,
    4096336452, 1126891415, 2878612391, 4237533241, 1700485571, 2399980690, 4293915773, 2240044497,
    1873313359, 4264355552, 2734768916, 1309151649, 4149444226, 3174756917, 718787259, 3951481745]
def rt : List Nat := [7, 12, 17, 22, 5, 9, 14, 20, 4, 11, 16, 23, 6, 10, 15, 21]
def kat (i : Nat) : Nat := kt.getD i 0
def far (i : Nat) : Nat := rt.getD (i / 16 * 4 + i % 4) 0
def word (m : List Nat) (g : Nat) : Nat := m.getD (4 * g) 0 + 256 * m.getD (4 * g + 1) 0 + 65536 * m.getD (4 * g + 2) 0 + 16777216 * m.getD (4 * g + 3) 0
def inv (x : Nat) : Nat := 4294967295 - x
def fv (i b c d : Nat) : Nat :=
  if i < 16 then (b &&& c) ||| (inv b &&& d) else if i < 32 then (d &&& b) ||| (inv d &&& c) else if i < 48 then (b ^^^ c) ^^^ d else c ^^^ (b ||| inv d)
def gv (i : Nat) : Nat := if i < 16 then i else if i < 32 then (5 * i + 1) % 16 else if i < 48 then (3 * i + 5) % 16 else 7 * i % 16

structure St where
  a : Nat
  b : Nat
  c : Nat
  d : Nat
def St.ok (s : St) : Prop := s.a < 4294967296 ∧ s.b < 4294967296 ∧ s.c < 4294967296 ∧ s.d < 4294967296
def nextb (m : List Nat) (i : Nat) (s : St) : Nat := (s.b + rot (far i) ((fv i s.b s.c s.d + s.a + kat i + word m (gv i)) % 4294967296)) % 4294967296
def stp (m : List Nat) (i : Nat) (s : St) : St := ⟨s.d, nextb m i s, s.b, s.c⟩
def rounds (m : List Nat) (s : St) : Nat → St
  | 0 => s
  | i + 1 => stp m i (rounds m s i)
def block (s : St) (m : List Nat) : St :=
  let t := rounds m s 64
  ⟨(s.a + t.a) % 4294967296, (s.b + t.b) % 4294967296, (s.c + t.c) % 4294967296, (s.d + t.d) % 4294967296⟩
def first : St := ⟨1732584193, 4023233417, 2562383102, 271733878⟩
def le8 (n : Nat) : List Nat := [n % 256, n / 256 % 256, n / 65536 % 256, n / 16777216 % 256, n / 4294967296 % 256, n / 1099511627776 % 256, n / 281474976710656 % 256, n / 72057594037927936 % 256]
def pz (n : Nat) : Nat := (119 - n % 64) % 64
def pad (l : List Nat) : List Nat := l ++ [128] ++ List.replicate (pz l.length) 0 ++ le8 (8 * l.length)
/-- Block after block. -/
def blocks (s : St) (p : List Nat) : Nat → St
  | 0 => s
  | n + 1 => block (blocks s p n) ((p.drop (64 * n)).take 64)
def St.at (s : St) (i : Nat) : Nat := match i with | 0 => s.a | 1 => s.b | 2 => s.c | _ => s.d
def outb (s : St) (i : Nat) : Nat := s.at (i / 4) / 256 ^ (i % 4) % 256
def final (l : List Nat) : St := blocks first (pad l) ((pad l).length / 64)
def sum (l : List Nat) : List Nat := (List.range 16).map (outb (final l))

theorem rot1_lt (x : Nat) : rot1 x < 4294967296 := Nat.mod_lt _ (by omega)
theorem rot_lt {x : Nat} (h : x < 4294967296) : ∀ n, rot n x < 4294967296
  | 0 => h
  | n + 1 => rot1_lt _
theorem inv_lt (x : Nat) : inv x < 4294967296 := by unfold inv; omega
theorem fv_lt {i b c d : Nat} (hb : b < 4294967296) (hc : c < 4294967296) (hd : d < 4294967296) : fv i b c d < 4294967296 := by
  unfold fv
  have ib := inv_lt b
  have id := inv_lt d
  split
  · exact Nat.or_lt_two_pow (n := 32) (Nat.and_lt_two_pow _ hc) (Nat.and_lt_two_pow _ hd)
  · split
    · exact Nat.or_lt_two_pow (n := 32) (Nat.and_lt_two_pow _ hb) (Nat.and_lt_two_pow _ hc)
    · split
      · exact Nat.xor_lt_two_pow (n := 32) (Nat.xor_lt_two_pow (n := 32) hb hc) hd
      · exact Nat.xor_lt_two_pow (n := 32) hc (Nat.or_lt_two_pow (n := 32) hb id)
theorem gv_lt {i : Nat} : gv i < 16 := by unfold gv; split; assumption; split <;> (try split) <;> exact Nat.mod_lt _ (by omega)
theorem stp_ok {m : List Nat} {i : Nat} {s : St} (h : s.ok) : (stp m i s).ok := ⟨h.2.2.2, Nat.mod_lt _ (by omega), h.2.1, h.2.2.1⟩
theorem rounds_ok {m : List Nat} {s : St} (h : s.ok) : ∀ i, (rounds m s i).ok
  | 0 => h
  | i + 1 => stp_ok (rounds_ok h i)
theorem block_ok (s : St) (m : List Nat) : (block s m).ok := ⟨Nat.mod_lt _ (by omega), Nat.mod_lt _ (by omega), Nat.mod_lt _ (by omega), Nat.mod_lt _ (by omega)⟩
theorem first_ok : first.ok := by refine ⟨?_, ?_, ?_, ?_⟩ <;> decide
theorem blocks_ok {s : St} (h : s.ok) (p : List Nat) : ∀ n, (blocks s p n).ok
  | 0 => h
  | n + 1 => block_ok _ _
theorem kt_length : kt.length = 64 := by rfl
theorem kat_lt (i : Nat) : kat i < 4294967296 := by
  unfold kat
  have h : ∀ x ∈ kt, x < 4294967296 := by decide
  rcases Nat.lt_or_ge i kt.length with h1 | h1
  · rw [List.getD_eq_getElem?_getD, List.getElem?_eq_getElem h1]; exact h _ (List.getElem_mem h1)
  · rw [List.getD_eq_getElem?_getD, List.getElem?_eq_none h1]; decide
theorem far_le (i : Nat) : far i ≤ 23 := by
  unfold far
  have h : ∀ x ∈ rt, x ≤ 23 := by decide
  rcases Nat.lt_or_ge (i / 16 * 4 + i % 4) rt.length with h1 | h1
  · rw [List.getD_eq_getElem?_getD, List.getElem?_eq_getElem h1]; exact h _ (List.getElem_mem h1)
  · rw [List.getD_eq_getElem?_getD, List.getElem?_eq_none h1]; decide
theorem getD_lt {m : List Nat} (h : ∀ x ∈ m, x < 256) (i : Nat) : m.getD i 0 < 256 := by
  rcases Nat.lt_or_ge i m.length with h1 | h1
  · rw [List.getD_eq_getElem?_getD, List.getElem?_eq_getElem h1]; exact h _ (List.getElem_mem h1)
  · rw [List.getD_eq_getElem?_getD, List.getElem?_eq_none h1]; decide
theorem word_lt {m : List Nat} (h : ∀ x ∈ m, x < 256) (g : Nat) : word m g < 4294967296 := by
  unfold word
  have h0 := getD_lt h (4 * g)
  have h1 := getD_lt h (4 * g + 1)
  have h2 := getD_lt h (4 * g + 2)
  have h3 := getD_lt h (4 * g + 3)
  omega
theorem pz_lt (n : Nat) : pz n < 64 := Nat.mod_lt _ (by omega)
theorem le8_lt (n : Nat) : ∀ x ∈ le8 n, x < 256 := by
  intro x hx
  simp only [le8, List.mem_cons, List.not_mem_nil, or_false] at hx
  rcases hx with rfl | rfl | rfl | rfl | rfl | rfl | rfl | rfl <;> exact Nat.mod_lt _ (by omega)
theorem pad_lt {l : List Nat} (h : ∀ x ∈ l, x < 256) : ∀ x ∈ pad l, x < 256 := by
  intro x hx
  unfold pad at hx
  simp only [List.mem_append, List.mem_singleton, List.mem_replicate] at hx
  rcases hx with ((h1 | rfl) | ⟨_, rfl⟩) | h1
  · exact h x h1
  · decide
  · decide
  · exact le8_lt _ x h1
theorem pad_length (l : List Nat) : (pad l).length = l.length + 9 + pz l.length := by
  unfold pad
  simp [le8]
  omega
theorem pad_mod (l : List Nat) : (pad l).length % 64 = 0 := by
  rw [pad_length]
  unfold pz
  omega
end Go.Proofs.YtlfmgellojjndaaDoor.M5
