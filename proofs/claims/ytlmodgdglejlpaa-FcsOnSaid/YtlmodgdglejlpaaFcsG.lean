import Derived.Test.YtlmodgdglejlpaaFcsF
namespace Go.Proofs.Ytlmodgdglejlpaa
open Go.RowKit
set_option linter.unusedVariables false
set_option linter.unusedSimpArgs false

def digits : List Nat := [49, 50, 51, 52, 53, 54, 55, 56, 57]
theorem digits_put : M.put digits = digits ++ [110, 144] := by decide +kernel
theorem digits_good : M.good (M.put digits) = true := by decide +kernel
theorem digits_bad : M.good digits = false := by decide +kernel
theorem digits_cutL : M.cutL (M.put digits) = digits := by decide +kernel
theorem digits_cutE : M.cutE (M.put digits) = 0 := by decide +kernel
theorem digits_len : (M.put digits).length = 11 := by decide +kernel
theorem digits_nine : digits.length = 9 := rfl
theorem digits_str : toStr digits = ⟨#[49, 50, 51, 52, 53, 54, 55, 56, 57]⟩ := by rfl
theorem digits_on : M.on 65535 (M.put digits) = 61624 := by decide +kernel
theorem digits_step : M.step 0 1 = 4489 := by decide +kernel

set_option maxRecDepth 100000 in
set_option maxHeartbeats 1000000 in
theorem shown_any (w : World) :
    Calls Try.prog 9 #[] w fun e w' => e = .returned (.bool true) ∧ Below w.heap.size w w' := by
  have hB := BRow.new_marked w #[.int .u8 49, .int .u8 50, .int .u8 51, .int .u8 52, .int .u8 53, .int .u8 54, .int .u8 55, .int .u8 56, .int .u8 57] (9, 10) digits rfl (by decide) (by decide) 9 rfl
  have hbw := (Below.refl w.heap.size w).alloc (Nat.le_refl _) (.cells #[.int .u8 49, .int .u8 50, .int .u8 51, .int .u8 52, .int .u8 53, .int .u8 54, .int .u8 55, .int .u8 56, .int .u8 57] 5 (9, 10))
  have HP := put_any digits _ _ _ hB (by decide)
  have hcv := run_conv_bytes w
  go_enter Try.func9, Try.ntmps9
  go_wp2_with (go_at_call 17; go_must (refine HP.mono ?_); rintro e w1 ⟨v1, rfl, ho1, hb1⟩)
  obtain ⟨a1, cap1, rfl, hr1, _⟩ := ho1.row
  have hrD := hB.below hb1
  have hbw1 := hbw.trans (hb1.mono (by simp))
  have hc9 : ∃ b off, a1 = some ⟨b, off, none⟩ ∧ w1.cell? ⟨b, off + 9, none⟩ = some (.int .u8 110) ∧ w1.cell? ⟨b, off + 10, none⟩ = some (.int .u8 144) := by
    obtain ⟨b, off, e, _, hc⟩ := hr1.at (by have := hr1.le; rw [digits_len] at this; omega)
    have h9 := hc 9 (by rw [digits_len]; decide)
    have h10 := hc 10 (by rw [digits_len]; decide)
    simp only [digits_put] at h9 h10
    exact ⟨b, off, e, h9, h10⟩
  have HC := cut_any (M.put digits) a1 cap1 w1 hr1 (by rw [digits_len]; decide)
  rw [digits_cutL, digits_cutE, digits_len] at HC
  have HG := good_any (M.put digits) a1 cap1
  have HO := on_any 65535 (M.put digits) a1 cap1
  rw [digits_len, digits_good] at HG
  rw [digits_len, digits_on] at HO
  have HGD := good_any digits (some ⟨w.heap.size, 0, none⟩) 9
  rw [digits_bad, digits_nine] at HGD
  have HS := step_any 0 1
  rw [digits_step] at HS
  rw [digits_len]
  have HGH := Lib.hid HG
  have HOH := Lib.hid HO
  have HGDH := Lib.hid HGD
  have HSH := Lib.hid HS
  clear HG HO HGD HS hcv HP
  refine HC.mono ?_
  rintro e w2 ⟨v2, rfl, ho2, hb2⟩
  obtain ⟨a2, cap2, rfl, hr2, _⟩ := ho2.row
  have hrp := hr1.below hb2
  have hrd := hrD.below hb2
  obtain ⟨b, off, rfl, c9, c10⟩ := hc9
  have c9' := (hb2.cell (p := ⟨b, off + 9, none⟩) (hr1.old b off rfl (by have := hr1.le; rw [digits_len] at this; omega))).trans c9
  have c10' := (hb2.cell (p := ⟨b, off + 10, none⟩) (hr1.old b off rfl (by have := hr1.le; rw [digits_len] at this; omega))).trans c10
  have hst := run_to_string hr2
  rw [digits_nine, digits_str] at hst
  rw [digits_nine]
  have hbw2 := hbw1.trans (hb2.mono hbw1.size)
  clear HC c9 c10 hr1 hrD hB hb1 hb2 ho1 ho2
  go_wp2_with (first
    | (go_at_call 19; first | (with_reducible refine (HGH.out _ hrp).mono ?_; rintro e w' ⟨rfl, rfl⟩) | (with_reducible refine (HGDH.out _ hrd).mono ?_; rintro e w' ⟨rfl, rfl⟩))
    | (go_at_call 14; go_must (refine (HOH.out _ (by omega) hrp).mono ?_); rintro e w' ⟨rfl, rfl⟩)
    | (go_at_call 12; go_must (refine (HSH.out _ (by omega) (by omega)).mono ?_); rintro e w' ⟨rfl, rfl⟩))
  go_ret
  exact ⟨rfl, hbw2⟩
end Go.Proofs.Ytlmodgdglejlpaa
