import Derived.Test.YtlmodgdglejlpaaFcsE
namespace Go.Proofs.Ytlmodgdglejlpaa
open Go.RowKit
set_option linter.unusedVariables false
set_option linter.unusedSimpArgs false

def M.cutE (l : List Nat) : Nat := if l.length < 2 then 2 else if M.good l = true then 0 else 3
def M.cutL (l : List Nat) : List Nat := if M.good l = true then l.take (l.length - 2) else []

theorem M.good_len {l : List Nat} (h : M.good l = true) : 2 ≤ l.length := by
  unfold M.good at h
  simp only [Bool.and_eq_true, decide_eq_true_eq] at h
  exact h.1
theorem M.cutE_short {l : List Nat} (h : l.length < 2) : M.cutE l = 2 := by unfold M.cutE; rw [if_pos h]
theorem M.cutE_good {l : List Nat} (h : M.good l = true) : M.cutE l = 0 := by unfold M.cutE; rw [if_neg (by have := M.good_len h; omega), if_pos h]
theorem M.cutE_bad {l : List Nat} (h2 : ¬ l.length < 2) (h : ¬ M.good l = true) : M.cutE l = 3 := by unfold M.cutE; rw [if_neg h2, if_neg h]
theorem M.cutL_good {l : List Nat} (h : M.good l = true) : M.cutL l = l.take (l.length - 2) := by unfold M.cutL; rw [if_pos h]
theorem M.cutL_bad {l : List Nat} (h : ¬ M.good l = true) : M.cutL l = [] := by unfold M.cutL; rw [if_neg h]

/-- A returned row and a number. -/
def CutPost (B : Nat) (w : World) (l : List Nat) (n : Nat) (e : Ending) (w' : World) : Prop :=
  ∃ v, e = .returned (.tuple #[v, .int .i64 (n : Nat)]) ∧ OwnB B w' v l ∧ Below w.heap.size w w'

set_option maxHeartbeats 400000 in
theorem cut_any (l : List Nat) (a : Option Addr) (cap : Nat) (w : World) (h : BRow w a cap l) (hl : l.length ≤ 100000000) :
    Calls Try.prog 10 #[.slice a l.length cap] w (CutPost w.heap.size w (M.cutL l) (M.cutE l)) := by
  have hm := h.len
  by_cases h2 : l.length < 2
  · have HE := Lib.hid (M.cutE_short h2)
    have HL := Lib.hid (M.cutL_bad (l := l) fun hg => by have := M.good_len hg; omega)
    go_enter Try.func10, Try.ntmps10
    go_wp2
    go_ret2
    exact ⟨.slice none 0 0, by rw [HE.out]; rfl, by rw [HL.out]; exact OwnB.nil _ _, Below.refl _ _⟩
  · by_cases hg : M.good l = true
    · have HE := Lib.hid (M.cutE_good hg)
      have HL := Lib.hid (M.cutL_good hg)
      go_enter Try.func10, Try.ntmps10
      go_wp2_with (first
        | (go_at_call 19; refine (good_any _ _ _ _ h).mono ?_; rintro e w' ⟨rfl, rfl⟩)
        | (at_make; refine wp_make_bytes w rfl (.tmp 13) (.tmp 13) rfl (l.length - 2) _ _ rfl rfl ?e1 ?e2 ?e3 ?e4))
      case e1 => omega
      case e2 => omega
      case e3 => omega
      intro w1 hg1 hb1
      have hr1 := h.below hb1
      go_wp2_with (with_reducible refine wp_copy_some w1 rfl (.tmp 15) (.tmp 16) rfl w.heap.size 0 _ _ a cap l _ rfl rfl hg1 hr1 ?f1 ?f2 ?f3)
      case f1 => omega
      case f2 => rw [length_zeros]; omega
      intro w2 hg2 hb2
      rw [splice_zeros _ (l.length - 2) 0 (by simp)] at hg2
      have hg3 : Blk w2 w.heap.size (l.take (l.length - 2)) := by simpa [zeros] using hg2
      have ho := hg3.own (B := w.heap.size) (Nat.le_refl _) (by simp; unfold maxLen; omega)
      have hml : (l.take (l.length - 2)).length = l.length - 2 := by simp
      rw [hml] at ho
      have hb3 := hb1.trans hb2
      clear hml hg1 hg2 hg3 hr1 hb1 hb2
      go_wp2
      go_ret2
      exact ⟨_, by rw [HE.out]; rfl, by rw [HL.out]; exact ho, hb3⟩
    · have HE := Lib.hid (M.cutE_bad h2 hg)
      have HL := Lib.hid (M.cutL_bad hg)
      have hgf : M.good l = false := by simpa using hg
      go_enter Try.func10, Try.ntmps10
      go_wp2_with (go_at_call 19; refine (good_any _ _ _ _ h).mono ?_; rintro e w' ⟨rfl, rfl⟩)
      go_ret2
      exact ⟨.slice none 0 0, by rw [HE.out]; rfl, by rw [HL.out]; exact OwnB.nil _ _, Below.refl _ _⟩

/-- A returned row that may lie in what came in, and a number. -/
def RCutPost (w : World) (l : List Nat) (n : Nat) (e : Ending) (w' : World) : Prop :=
  ∃ a cap, e = .returned (.tuple #[.slice a l.length cap, .int .i64 (n : Nat)]) ∧ BRow w' a cap l ∧ Below w.heap.size w w'

set_option maxHeartbeats 400000 in
theorem rcut_any (l : List Nat) (a : Option Addr) (cap : Nat) (w : World) (h : BRow w a cap l) (hl : l.length ≤ 100000000) :
    Calls Try.prog 11 #[.slice a l.length cap] w (RCutPost w (M.cutL l) (M.cutE l)) := by
  have hm := h.len
  have hcap := h.le
  by_cases h2 : l.length < 2
  · have HE := Lib.hid (M.cutE_short h2)
    have HL := Lib.hid (M.cutL_bad (l := l) fun hg => by have := M.good_len hg; omega)
    go_enter Try.func11, Try.ntmps11
    go_wp2
    go_ret2
    exact ⟨none, 0, by rw [HE.out, HL.out]; rfl, by rw [HL.out]; exact BRow.nil _, Below.refl _ _⟩
  · by_cases hg : M.good l = true
    · have HE := Lib.hid (M.cutE_good hg)
      have HL := Lib.hid (M.cutL_good hg)
      go_enter Try.func11, Try.ntmps11
      go_wp2_with (go_at_call 20; refine (rgood_any _ _ _ _ h hl).mono ?_; rintro e w' ⟨rfl, hb⟩)
      go_ret2
      exact ⟨a, cap, by rw [HE.out, HL.out]; simp, by rw [HL.out]; exact (h.below hb).take _, hb⟩
    · have HE := Lib.hid (M.cutE_bad h2 hg)
      have HL := Lib.hid (M.cutL_bad hg)
      have hgf : M.good l = false := by simpa using hg
      go_enter Try.func11, Try.ntmps11
      go_wp2_with (go_at_call 20; refine (rgood_any _ _ _ _ h hl).mono ?_; rintro e w' ⟨rfl, hb⟩)
      go_ret2
      exact ⟨none, 0, by rw [HE.out, HL.out]; rfl, by rw [HL.out]; exact BRow.nil _, hb⟩
end Go.Proofs.Ytlmodgdglejlpaa
