import Derived.Test.YtlmodgdglejlpaaFcsC
namespace Go.Proofs.Ytlmodgdglejlpaa
open Go.RowKit
set_option linter.unusedVariables false
set_option linter.unusedSimpArgs false

theorem not_u16 (n : Nat) (h : n < 65536) : bits .xor .u16 IntKind.u16.max (n : Int) = ((65535 - n : Nat) : Int) := by
  have e : IntKind.u16.max = ((65535 : Nat) : Int) := by decide
  rw [e, u16_xor_nat _ _ (by omega) h]
  have := M.xor_not h
  have h2 : (65535 - n) = n ^^^ 65535 := by
    have := congrArg (n ^^^ ·) this
    simpa [← Nat.xor_assoc] using this
  rw [h2, Nat.xor_comm]

set_option maxHeartbeats 400000 in
theorem put_any (l : List Nat) (a : Option Addr) (cap : Nat) (w : World) (h : BRow w a cap l) (hl : l.length ≤ 100000000) :
    Calls Try.prog 17 #[.slice a l.length cap] w fun e w' => ∃ v, e = .returned v ∧ OwnB w.heap.size w' v (M.put l) ∧ Below w.heap.size w w' := by
  have hold := h.old
  have hmx : l.length + 2 ≤ maxLen := by unfold maxLen; omega
  go_enter Try.func17, Try.ntmps17
  go_wp2_with (first
    | (at_make; refine wp_make_bytes w rfl (.tmp 7) (.tmp 7) rfl (l.length + 2) _ _ rfl rfl rfl rfl (by omega) ?_; intro w1 hg1 hb1; have hr1 := h.below hb1)
    | (with_reducible refine wp_copy_all w1 rfl (.tmp 9) (.tmp 10) rfl w.heap.size 0 _ _ a cap l _ rfl rfl hg1 hr1 ?c1 ?c2 ?c3)
    | (go_at_call 14; refine (on_any _ _ _ _ _ (by omega) hr2).mono ?_; rintro e w' ⟨rfl, rfl⟩))
  case c1 => omega
  case c2 => rw [length_zeros]; omega
  intro w2 hg2 hb2
  rw [splice_zeros l (l.length + 2) 2 rfl] at hg2
  have hr2 := hr1.keep hb2 hold
  have hlen2 : (l ++ zeros 2).length = l.length + 2 := by simp [length_zeros]
  have c0 := hg2.cell (by rw [hlen2]; exact hmx) (i := l.length) (by omega)
  have c1 := hg2.cell (by rw [hlen2]; exact hmx) (i := l.length + 1) (by omega)
  have f0 := hg2.free (by rw [hlen2]; exact hmx) l.length
  have f1 := hg2.free (by rw [hlen2]; exact hmx) (l.length + 1)
  generalize (l ++ zeros 2)[l.length] = x0 at *
  generalize (l ++ zeros 2)[l.length + 1] = x1 at *
  have HL2 := Lib.hid hlen2
  have hon := M.on_lt l 65535 (by omega) h.byte
  have hx := not_u16 (M.on 65535 l) hon
  clear hlen2 hr1 hg1
  go_wp2_with (go_at_call 14; refine (on_any 65535 _ _ _ _ (by omega) hr2).mono ?_; rintro e w' ⟨rfl, rfl⟩)
  go_ret
  have hn : 65535 - M.on 65535 l < 65536 := by omega
  have hput : M.put l = ((l ++ zeros 2).set l.length ((65535 - M.on 65535 l) % 256)).set (l.length + 1) ((65535 - M.on 65535 l) / 256) := by
    simp [M.put, M.tail, zeros, List.set_append]
  refine ⟨.slice (some ⟨w.heap.size, 0, none⟩) (l.length + 2) (l.length + 2), rfl, ?_, ((hb1.trans hb2).setCell (Nat.le_refl _) _).setCell (Nat.le_refl _) _⟩
  rw [hput]
  generalize 65535 - M.on 65535 l = n at *
  have e0 : ((n : Int) % 256) = ((n % 256 : Nat) : Int) := by omega
  have e1 : ((n : Int) / 256 % 256) = ((n / 256 : Nat) : Int) := by omega
  rw [e0, e1]
  have k := (hg2.set l.length (n % 256) (by omega)).set (l.length + 1) (n / 256) (by omega)
  have := k.own (B := w.heap.size) (Nat.le_refl _) (by simp [length_zeros]; exact hmx)
  simpa [length_zeros] using this
end Go.Proofs.Ytlmodgdglejlpaa
