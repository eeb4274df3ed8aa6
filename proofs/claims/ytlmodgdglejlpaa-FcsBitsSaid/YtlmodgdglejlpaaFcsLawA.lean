import Derived.Test.YtlmodgdglejlpaaFcsG
namespace Go.Proofs.Ytlmodgdglejlpaa
open Go.RowKit
set_option linter.unusedVariables false
set_option linter.unusedSimpArgs false

set_option maxRecDepth 100000 in
set_option maxHeartbeats 1000000 in
theorem bits_any (s c : Nat) (w : World) (hs : s < 65536) (hc : c < 256) :
    Calls Try.prog 6 #[.int .u16 s, .int .u8 c] w fun e w' => e = .returned (.bool true) ∧ Below w.heap.size w w' := by
  have hx := u16_xor_nat s c hs (by omega)
  go_enter Try.func6, Try.ntmps6
  go_wp2_with (go_at_call 9; refine (shown_any _).mono ?_; rintro e w1 ⟨rfl, hb1⟩)
  go_loop [6, 7] (fun n i => ∃ k : Nat, k ≤ 8 ∧ i = .int .i64 k ∧ n = .int .u16 (M.it k (s ^^^ c) : Nat)) (fun _ i => 8 - (intOf i).toNat)
  case atStart => exact ⟨0, by omega, rfl, rfl⟩
  case round =>
    obtain ⟨k, hk, rfl, rfl⟩ := hrel
    have hl := M.it_lt (M.xor_lt hs (b := c) (by omega)) k
    have HN : Hid (M.it (k + 1) (s ^^^ c) = M.bs (M.it k (s ^^^ c))) := rfl
    have HX8 : Hid (k = 8 → M.step s c = M.it k (s ^^^ c)) := fun e => by subst e; rfl
    generalize M.it k (s ^^^ c) = x at *
    have hxx : bits .xor .u16 ((x : Int) / 2) 33800 = ((x / 2 ^^^ 33800 : Nat) : Int) := by have := u16_xor_nat (x / 2) 33800 (by omega) (by omega); simpa using this
    by_cases hk8 : k < 8
    · clear hx
      by_cases ho : x % 2 = 1
      · have hb : ((x : Int) % 2 == 1) = true := by rw [beq_iff_eq]; omega
        have HB := Lib.hid (M.bs_odd ho)
        have HX := Lib.hid hxx
        clear ho hxx
        go_wp2
        exact ⟨⟨k + 1, by omega, by go_num, by rw [HN.out, HB.out, HX.out]⟩, by simp [intOf]; omega⟩
      · have hb : ((x : Int) % 2 == 1) = false := by rw [beq_eq_false_iff_ne]; omega
        have HB := Lib.hid (M.bs_even ho)
        clear ho hxx
        go_wp2
        exact ⟨⟨k + 1, by omega, by go_num, by rw [HN.out, HB.out]; go_num⟩, by simp [intOf]; omega⟩
    · obtain rfl : k = 8 := by omega
      have hst : M.step s c = x := HX8.out rfl
      have hst2 : M.step (s ^^^ c) 0 = x := by rw [← hst]; show M.it 8 (s ^^^ c ^^^ 0) = M.it 8 (s ^^^ c); rw [Nat.xor_zero]
      have hs1 := step_any s c w1 hs hc
      have hs2 := step_any (s ^^^ c) 0 w1 (M.xor_lt hs (by omega)) (by omega)
      have hs3 := on_any s [c] _ _ _ hs ((Blk.new w1 #[.int .u8 c] [c] rfl (by simpa using hc)).brow (by simp [maxLen]))
      rw [hst] at hs1
      rw [hst2] at hs2
      rw [show M.on s [c] = M.step s c from rfl, hst, show [c].length = 1 from rfl] at hs3
      have S1 := Lib.hid hs1
      have S2 := Lib.hid hs2
      have S3 := Lib.hid hs3
      have hbz := hb1.alloc hb1.size (.cells #[.int .u8 c] 5)
      clear hs1 hs2 hs3 hst hst2 hxx
      go_wp2_with (first
        | (go_at_call 12; first | (with_reducible refine S1.out.mono ?_; rintro e w' ⟨rfl, rfl⟩) | (refine S2.out.mono ?_; rintro e w' ⟨rfl, rfl⟩))
        | (go_at_call 14; refine S3.out.mono ?_; rintro e w' ⟨rfl, rfl⟩))
      go_ret
      exact ⟨rfl, hbz⟩
end Go.Proofs.Ytlmodgdglejlpaa
