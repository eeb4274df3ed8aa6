import Derived.Test.YtlmodgdglejlpaaFcsD
namespace Go.Proofs.Ytlmodgdglejlpaa
open Go.RowKit
set_option linter.unusedVariables false
set_option linter.unusedSimpArgs false

set_option maxHeartbeats 400000 in
theorem rput_any (l : List Nat) (a : Option Addr) (cap : Nat) (w : World) (h : BRow w a cap l) (hl : l.length ≤ 100000000) :
    Calls Try.prog 18 #[.slice a l.length cap] w fun e w' => ∃ v, e = .returned v ∧ OwnB w.heap.size w' v (M.put l) ∧ Below w.heap.size w w' := by
  have hon := M.on_lt l 65535 (by omega) h.byte
  have hm := h.max
  have hr1 := h.below ((Below.refl w.heap.size w).alloc (Nat.le_refl _) (.cells #[] 5))
  have hE := OwnB.empty w (Nat.le_refl _)
  go_enter Try.func18, Try.ntmps18
  go_wp2_with (first
    | (go_at_call 15; refine (ron_any 65535 _ _ _ _ (by omega) h).mono ?_; rintro e w' ⟨rfl, rfl⟩)
    | (at_builtin; first | (with_reducible refine wp_append_bytes _ rfl (.tmp 8) (.tmp 9) rfl w.heap.size _ [] l hE rfl _ _ hr1 _ rfl rfl ?c1 ?c2 ?c3) | fail))
  case c1 => simp; omega
  case c2 => simp
  intro v1 w1 ho1 hb1 hg1
  have hbw := ((Below.refl w.heap.size w).alloc (Nat.le_refl _) (.cells #[] 5)).trans hb1
  have hs1 := hbw.size
  clear hb1 hg1 hr1 hE
  have e0 : ((65535 : Int) - (M.on 65535 l : Nat)) = ((65535 - M.on 65535 l : Nat) : Int) := by omega
  go_wp2_with (at_builtin; go_must (with_reducible refine wp_append_bytes _ rfl (.tmp 10) (.tmp 17) rfl w.heap.size _ l (M.tail l) (ho1.alloc _) rfl _ _ ?r _ rfl ?d0 ?d1 ?d2 ?d3))
  case r =>
    have e1 : (((65535 - M.on 65535 l : Nat) : Int) % 256) = (((65535 - M.on 65535 l) % 256 : Nat) : Int) := by omega
    have e2 : (((65535 - M.on 65535 l : Nat) : Int) / 256) = (((65535 - M.on 65535 l) / 256 : Nat) : Int) := by omega
    rw [e1, e2]
    exact (Blk.new w1 _ (M.tail l) rfl M.tail_lt).brow (by simp [M.tail]; unfold maxLen; omega)
  case d0 => rfl
  case d1 => simp [M.tail]; omega
  case d2 => simp; omega
  intro v2 w2 ho2 hb2 hg2
  have hbz := (hbw.alloc hs1 _).trans hb2
  clear hb2 hg2 hbw
  go_wp2
  go_ret
  exact ⟨v2, rfl, ho2, hbz⟩

set_option maxHeartbeats 400000 in
theorem good_any (l : List Nat) (a : Option Addr) (cap : Nat) (w : World) (h : BRow w a cap l) :
    Calls Try.prog 19 #[.slice a l.length cap] w fun e w' => e = .returned (.bool (M.good l)) ∧ w = w' := by
  have hm := h.len
  by_cases h2 : 2 ≤ l.length
  · have hb : decide ((2 : Int) ≤ (l.length : Int)) = true := by simp; omega
    have HE : Hid (M.good l = ((M.on 65535 l : Int) == 61624)) := by
      show _ = _
      unfold M.good
      rw [show decide (2 ≤ l.length) = true from decide_eq_true h2, Bool.true_and, Bool.eq_iff_iff, beq_iff_eq, beq_iff_eq]
      omega
    clear h2
    go_enter Try.func19, Try.ntmps19
    go_wp2_with (go_at_call 14; refine (on_any 65535 _ _ _ _ (by omega) h).mono ?_; rintro e w' ⟨rfl, rfl⟩)
    go_ret
    exact ⟨by rw [HE.out]; rfl, rfl⟩
  · have hb : decide ((2 : Int) ≤ (l.length : Int)) = false := by simp; omega
    have HE : Hid (M.good l = false) := by
      show _ = _
      unfold M.good
      rw [show decide (2 ≤ l.length) = false from decide_eq_false h2, Bool.false_and]
    go_enter Try.func19, Try.ntmps19
    go_wp2
    go_ret
    exact ⟨by rw [HE.out]; rfl, rfl⟩

set_option maxHeartbeats 400000 in
theorem rgood_any (l : List Nat) (a : Option Addr) (cap : Nat) (w : World) (h : BRow w a cap l) (hl : l.length ≤ 100000000) :
    Calls Try.prog 20 #[.slice a l.length cap] w fun e w' => e = .returned (.bool (M.good l)) ∧ Below w.heap.size w w' := by
  have hm := h.len
  by_cases h2 : 2 ≤ l.length
  · have hb : decide ((2 : Int) ≤ (l.length : Int)) = true := by simp; omega
    have hml : (l.take (l.length - 2)).length = l.length - 2 := by simp
    have HP := rput_any (l.take (l.length - 2)) a cap w (h.take _) (by omega)
    rw [hml] at HP
    have HE : Hid (M.good l = eqb l (M.put (l.take (l.length - 2)))) := by
      show _ = _
      unfold eqb
      rw [Bool.eq_iff_iff, M.good_iff h.byte h2, decide_eq_true_eq]
    have HPH := Lib.hid HP
    have hcap := h.le
    clear hml HP
    go_enter Try.func20, Try.ntmps20
    go_wp2_with (first
      | (go_at_call 18; refine HPH.out.mono ?_; rintro e w1 ⟨v, rfl, ho, hb1⟩; obtain ⟨a1, cap1, rfl, hr1, _⟩ := ho.row; have hr0 := h.below hb1)
      | (go_at_call 16; refine (row_any _ _ _ _ _ _ _ hr0 hr1).mono ?_; rintro e w2 ⟨rfl, hq⟩))
    go_ret
    exact ⟨by rw [HE.out]; rfl, hb1.trans (hq.below _)⟩
  · have hb : decide ((2 : Int) ≤ (l.length : Int)) = false := by simp; omega
    have HE : Hid (M.good l = false) := by
      show _ = _
      unfold M.good
      rw [show decide (2 ≤ l.length) = false from decide_eq_false h2, Bool.false_and]
    go_enter Try.func20, Try.ntmps20
    go_wp2
    go_ret
    exact ⟨by rw [HE.out]; rfl, Below.refl _ _⟩
end Go.Proofs.Ytlmodgdglejlpaa
