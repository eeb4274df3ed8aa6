import Derived.Test.YtlmodgdglejlpaaFcsG
namespace Go.Proofs.Ytlmodgdglejlpaa
open Go.RowKit
set_option linter.unusedVariables false
set_option linter.unusedSimpArgs false

theorem good_pair {a b : Nat} (ha : a < 256) (hb : b < 256) : M.good [a, b] = true ↔ (a = 0 ∧ b = 0) := by
  have := M.good_append (l := []) (x := a) (y := b) (by simp) ha hb
  rw [show M.tail [] = [0, 0] from by decide +kernel] at this
  simpa using this

theorem cutE_zero {l : List Nat} : M.cutE l = 0 ↔ M.good l = true := by
  unfold M.cutE
  constructor
  · intro h
    by_cases h1 : l.length < 2
    · rw [if_pos h1] at h; omega
    · rw [if_neg h1] at h
      by_cases h2 : M.good l = true
      · exact h2
      · rw [if_neg h2] at h; omega
  · intro h
    exact M.cutE_good h

set_option maxRecDepth 100000 in
set_option maxHeartbeats 1000000 in
theorem short_any (a b : Nat) (l : List Nat) (al : Option Addr) (cap : Nat) (w : World) (ha : a < 256) (hb : b < 256) (h : BRow w al cap l) :
    Calls Try.prog 8 #[.int .u8 a, .int .u8 b, .slice al l.length cap] w fun e w' => e = .returned (.bool true) ∧ Below w.heap.size w w' := by
  have hm := h.len
  by_cases hbig : 1000 < l.length
  · go_enter Try.func8, Try.ntmps8
    go_wp2_with (go_at_call 9; refine (shown_any _).mono ?_; rintro e w1 ⟨rfl, hb1⟩)
    go_ret
    exact ⟨rfl, hb1⟩
  · have hE0 : M.cutE [] = 2 := by decide +kernel
    have hE1 : M.cutE [a] = 2 := M.cutE_short (by simp)
    have HE : Hid ((M.cutE l = 0 ∧ M.good l = true ∧ (M.cutL l).length + 2 = l.length) ∨ (M.cutE l ≠ 0 ∧ M.good l = false)) := by
      show _ ∨ _
      by_cases hg : M.good l = true
      · exact .inl ⟨cutE_zero.2 hg, hg, by rw [M.cutL_good hg]; have := M.good_len hg; simp; omega⟩
      · exact .inr ⟨fun e => hg (cutE_zero.1 e), by simpa using hg⟩
    have HP : Hid ((a = 0 ∧ b = 0 ∧ M.good [a, b] = true) ∨ (a = 0 ∧ b ≠ 0 ∧ M.good [a, b] = false) ∨ (a ≠ 0 ∧ M.good [a, b] = false)) := by
      show _ ∨ _
      by_cases h1 : a = 0
      · by_cases h2 : b = 0
        · exact .inl ⟨h1, h2, (good_pair ha hb).2 ⟨h1, h2⟩⟩
        · exact .inr (.inl ⟨h1, h2, by rw [Bool.eq_false_iff]; intro e; exact h2 ((good_pair ha hb).1 e).2⟩)
      · exact .inr (.inr ⟨h1, by rw [Bool.eq_false_iff]; intro e; exact h1 ((good_pair ha hb).1 e).1⟩)
    go_enter Try.func8, Try.ntmps8
    go_wp2_with (first | (go_at_call 9; refine (shown_any _).mono ?_; rintro e w1 ⟨rfl, hb1⟩) | fail)
    have HC0 := cut_any [] none 0 w1 (BRow.nil w1) (by decide)
    rw [hE0] at HC0
    refine HC0.mono ?_
    rintro e w2 ⟨v2, rfl, -, hb2⟩
    have HC1 := cut_any [a] (some ⟨w2.heap.size, 0, none⟩) 1 (w2.alloc (.cells #[.int .u8 a] 5)) ((Blk.new w2 #[.int .u8 a] [a] rfl (by simpa using ha)).brow (by simp [maxLen])) (by simp)
    rw [hE1] at HC1
    have hbb2 := (hb1.trans (hb2.mono hb1.size)).alloc (Nat.le_trans hb1.size hb2.size) (.cells #[.int .u8 a] 5)
    have HC1H := Lib.hid HC1
    have HE0 := Lib.hid hE0
    clear HC0 hE0 hE1 HC1 hb1 hb2
    go_wp2_with fail
    refine HC1H.out.mono ?_
    rintro e w3 ⟨v3, rfl, -, hb3⟩
    have hbb3 := hbb2.trans (hb3.mono hbb2.size)
    have hr3 := h.below hbb3
    have HC2 := cut_any l al cap w3 hr3 (by omega)
    have HC2H := Lib.hid HC2
    clear HC1H HC2 hb3 hbb2
    go_wp2_with fail
    refine HC2H.out.mono ?_
    rintro e w4 ⟨v4, rfl, ho4, hb4⟩
    obtain ⟨a4, cap4, rfl, hr4, -⟩ := ho4.row
    have hbb4 := hbb3.trans (hb4.mono hbb3.size)
    have hrl4 := h.below hbb4
    have hg40 := (good_any [a, b] (some ⟨w4.heap.size, 0, none⟩) 2 (w4.alloc (.cells #[.int .u8 a, .int .u8 b] 5)) ((Blk.new w4 #[.int .u8 a, .int .u8 b] [a, b] rfl (by simp; exact ⟨ha, hb⟩)).brow (by simp [maxLen])))
    rw [show [a, b].length = 2 from rfl] at hg40
    have hg4 := Lib.hid hg40
    clear hg40
    have hbb5 := hbb4.alloc hbb4.size (.cells #[.int .u8 a, .int .u8 b] 5)
    have hg5 := Lib.hid (good_any l al cap _ (h.below hbb5))
    clear HC2H hb4 hbb3 ho4 hr3
    generalize M.cutE l = E at *
    generalize (M.cutL l).length = L at *
    generalize M.good l = G at *
    generalize M.good [a, b] = G2 at *
    rcases HP.out with ⟨h1, h2, rfl⟩ | ⟨h1, h2, rfl⟩ | ⟨h1, rfl⟩
    · have ha0 : ((a : Int) == 0) = true := by simpa using h1
      have hb0 : ((b : Int) == 0) = true := by simpa using h2
      clear h1 h2
      rcases HE.out with ⟨rfl, rfl, h3⟩ | ⟨h3, rfl⟩
      · have hl : ((L : Int) == (l.length : Int) - 2) = true := by rw [beq_iff_eq]; omega
        clear h3
        go_wp2_with (go_at_call 19; first | (with_reducible refine hg4.out.mono ?_; rintro e w' ⟨rfl, rfl⟩) | (with_reducible refine hg5.out.mono ?_; rintro e w' ⟨rfl, rfl⟩))
        go_ret
        exact ⟨rfl, hbb5⟩
      · have he : ((E : Int) == 0) = false := by rw [beq_eq_false_iff_ne]; omega
        have he' : ((E : Int) != 0) = true := by rw [bne_iff_ne]; omega
        clear h3
        go_wp2_with (go_at_call 19; first | (with_reducible refine hg4.out.mono ?_; rintro e w' ⟨rfl, rfl⟩) | (with_reducible refine hg5.out.mono ?_; rintro e w' ⟨rfl, rfl⟩))
        go_ret
        exact ⟨rfl, hbb5⟩
    · have ha0 : ((a : Int) == 0) = true := by simpa using h1
      have hb0 : ((b : Int) == 0) = false := by simpa using h2
      clear h1 h2
      rcases HE.out with ⟨rfl, rfl, h3⟩ | ⟨h3, rfl⟩
      · have hl : ((L : Int) == (l.length : Int) - 2) = true := by rw [beq_iff_eq]; omega
        clear h3
        go_wp2_with (go_at_call 19; first | (with_reducible refine hg4.out.mono ?_; rintro e w' ⟨rfl, rfl⟩) | (with_reducible refine hg5.out.mono ?_; rintro e w' ⟨rfl, rfl⟩))
        go_ret
        exact ⟨rfl, hbb5⟩
      · have he : ((E : Int) == 0) = false := by rw [beq_eq_false_iff_ne]; omega
        have he' : ((E : Int) != 0) = true := by rw [bne_iff_ne]; omega
        clear h3
        go_wp2_with (go_at_call 19; first | (with_reducible refine hg4.out.mono ?_; rintro e w' ⟨rfl, rfl⟩) | (with_reducible refine hg5.out.mono ?_; rintro e w' ⟨rfl, rfl⟩))
        go_ret
        exact ⟨rfl, hbb5⟩
    · have ha0 : ((a : Int) == 0) = false := by simpa using h1
      clear h1
      rcases HE.out with ⟨rfl, rfl, h3⟩ | ⟨h3, rfl⟩
      · have hl : ((L : Int) == (l.length : Int) - 2) = true := by rw [beq_iff_eq]; omega
        clear h3
        go_wp2_with (go_at_call 19; first | (with_reducible refine hg4.out.mono ?_; rintro e w' ⟨rfl, rfl⟩) | (with_reducible refine hg5.out.mono ?_; rintro e w' ⟨rfl, rfl⟩))
        go_ret
        exact ⟨rfl, hbb5⟩
      · have he : ((E : Int) == 0) = false := by rw [beq_eq_false_iff_ne]; omega
        have he' : ((E : Int) != 0) = true := by rw [bne_iff_ne]; omega
        clear h3
        go_wp2_with (go_at_call 19; first | (with_reducible refine hg4.out.mono ?_; rintro e w' ⟨rfl, rfl⟩) | (with_reducible refine hg5.out.mono ?_; rintro e w' ⟨rfl, rfl⟩))
        go_ret
        exact ⟨rfl, hbb5⟩
end Go.Proofs.Ytlmodgdglejlpaa
