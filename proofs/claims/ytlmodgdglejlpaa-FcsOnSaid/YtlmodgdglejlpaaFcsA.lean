import Derived.Test.YtlmodgdglejlpaaFcsM
import Derived.Test.YtlmodgdglejlpaaKit
namespace Go.Proofs.Ytlmodgdglejlpaa
open Go.RowKit
set_option linter.unusedVariables false
set_option linter.unusedSimpArgs false

theorem one_bit (x : Nat) : x &&& 1 = x % 2 := Nat.and_two_pow_sub_one_eq_mod x 1

set_option maxHeartbeats 400000 in
theorem step_any (s c : Nat) (w : World) (hs : s < 65536) (hc : c < 256) :
    Calls Try.prog 12 #[.int .u16 s, .int .u8 c] w fun e w' => e = .returned (.int .u16 (M.step s c : Nat)) ∧ w = w' := by
  have hx := u16_xor_nat s c hs (by omega)
  go_enter Try.func12, Try.ntmps12
  go_wp2
  clear hx
  go_loop [0, 10] (fun n i => ∃ k : Nat, k ≤ 8 ∧ i = .int .i64 k ∧ n = .int .u16 (M.it k (s ^^^ c) : Nat)) (fun _ i => 8 - (intOf i).toNat)
  case atStart => exact ⟨0, by omega, rfl, rfl⟩
  case round =>
    obtain ⟨k, hk, rfl, rfl⟩ := hrel
    have hl := M.it_lt (M.xor_lt hs (b := c) (by omega)) k
    have HN : Hid (M.it (k + 1) (s ^^^ c) = M.bs (M.it k (s ^^^ c))) := rfl
    have HX8 : Hid (k = 8 → M.step s c = M.it k (s ^^^ c)) := fun e => by subst e; rfl
    generalize M.it k (s ^^^ c) = x at *
    have ha : bits .and .u16 (x : Int) 1 = ((x % 2 : Nat) : Int) := by have := u16_and_nat x 1 hl (by omega); rw [one_bit] at this; exact this
    have hxx : bits .xor .u16 ((x : Int) / 2) 33800 = ((x / 2 ^^^ 33800 : Nat) : Int) := by have := u16_xor_nat (x / 2) 33800 (by omega) (by omega); simpa using this
    by_cases hk8 : k < 8
    · have hm : (8 - (k + 1) : Nat) < 8 - k := by omega
      by_cases ho : x % 2 = 1
      · have hb : (bits .and .u16 (x : Int) 1 == 1) = true := by rw [ha, ho]; rfl
        have HB := Lib.hid (M.bs_odd ho)
        have HX := Lib.hid hxx
        clear ha ho hxx
        go_wp2
        exact ⟨⟨k + 1, by omega, by go_num, by rw [HN.out, HB.out, HX.out]⟩, by simp [intOf]; omega⟩
      · have hb : (bits .and .u16 (x : Int) 1 == 1) = false := by rw [ha, show x % 2 = 0 by omega]; rfl
        have HB := Lib.hid (M.bs_even ho)
        clear ha ho hxx
        go_wp2
        exact ⟨⟨k + 1, by omega, by go_num, by rw [HN.out, HB.out]; go_num⟩, by simp [intOf]; omega⟩
    · obtain rfl : k = 8 := by omega
      go_wp2
      go_ret
      exact ⟨by rw [HX8.out trivial]; rfl, rfl⟩

theorem xor_i64_nat (a b : Nat) (ha : a < 4294967296) (hb : b < 4294967296) : bits .xor .i64 (a : Int) (b : Int) = ((a ^^^ b : Nat) : Int) := by
  have hx : a ^^^ b < 2 ^ 32 := Nat.xor_lt_two_pow (by omega) (by omega)
  have h1 : (BitVec.ofInt 64 (a : Int)).toNat = a := by
    rw [BitVec.ofInt_natCast, BitVec.toNat_ofNat]; exact Nat.mod_eq_of_lt (by omega)
  have h2 : (BitVec.ofInt 64 (b : Int)).toNat = b := by
    rw [BitVec.ofInt_natCast, BitVec.toNat_ofNat]; exact Nat.mod_eq_of_lt (by omega)
  show IntKind.i64.wrap ((BitVec.ofInt 64 (a : Int) ^^^ BitVec.ofInt 64 (b : Int)).toNat : Int) = _
  rw [BitVec.toNat_xor, h1, h2, IntKind.wrap_i64]
  omega

set_option maxHeartbeats 400000 in
theorem rstep_any (s c : Nat) (w : World) (hs : s < 65536) (hc : c < 256) :
    Calls Try.prog 13 #[.int .u16 s, .int .u8 c] w fun e w' => e = .returned (.int .u16 (M.step s c : Nat)) ∧ w = w' := by
  have hx := xor_i64_nat s c (by omega) (by omega)
  go_enter Try.func13, Try.ntmps13
  go_wp2
  clear hx
  go_loop [5, 6, 7] (fun n i _ => ∃ k : Nat, k ≤ 8 ∧ i = .int .i64 k ∧ n = .int .i64 (M.it k (s ^^^ c) : Nat)) (fun _ i _ => 8 - (intOf i).toNat)
  case atStart => exact ⟨0, by omega, rfl, rfl⟩
  case round =>
    obtain ⟨k, hk, rfl, rfl⟩ := hrel
    have hl := M.it_lt (M.xor_lt hs (b := c) (by omega)) k
    have HN : Hid (M.it (k + 1) (s ^^^ c) = M.bs (M.it k (s ^^^ c))) := rfl
    have HX8 : Hid (k = 8 → M.step s c = M.it k (s ^^^ c)) := fun e => by subst e; rfl
    generalize M.it k (s ^^^ c) = x at *
    have hxx : bits .xor .i64 ((x : Int) / 2) 33800 = ((x / 2 ^^^ 33800 : Nat) : Int) := by have := xor_i64_nat (x / 2) 33800 (by omega) (by omega); simpa using this
    by_cases hk8 : k < 8
    · by_cases ho : x % 2 = 1
      · have hb : ((x : Int) % 2 == 1) = true := by rw [beq_iff_eq]; omega
        have HB := Lib.hid (M.bs_odd ho)
        have HX := Lib.hid hxx
        clear ho hxx
        go_wp2
        exact ⟨⟨k + 1, by omega, by go_num, by rw [HN.out, HB.out, HX.out]⟩, by simp [intOf]; omega⟩
      · have hb : ((x : Int) % 2 == 1) = false := by rw [beq_eq_false_iff_ne]; omega
        have HB := Lib.hid (M.bs_even ho)
        clear ho hxx
        go_wp2
        exact ⟨⟨k + 1, by omega, by go_num, by rw [HN.out, HB.out]; go_num⟩, by simp [intOf]; omega⟩
    · obtain rfl : k = 8 := by omega
      have HW : Hid (IntKind.u16.wrap (x : Int) = x) := by show _ = _; rw [IntKind.wrap_u16]; omega
      go_wp2
      go_ret
      exact ⟨by rw [HX8.out trivial]; rfl, rfl⟩
end Go.Proofs.Ytlmodgdglejlpaa
