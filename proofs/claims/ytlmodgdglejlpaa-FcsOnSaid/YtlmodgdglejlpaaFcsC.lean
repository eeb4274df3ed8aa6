import Derived.Test.YtlmodgdglejlpaaFcsB
namespace Go.Proofs.Ytlmodgdglejlpaa
open Go.RowKit
set_option linter.unusedVariables false
set_option linter.unusedSimpArgs false

set_option maxHeartbeats 400000 in
theorem row_any (l m : List Nat) (a a' : Option Addr) (cap cap' : Nat) (w : World) (h : BRow w a cap l) (h' : BRow w a' cap' m) :
    Calls Try.prog 16 #[.slice a l.length cap, .slice a' m.length cap'] w fun e w' => e = .returned (.bool (eqb l m)) ∧ Quiet w w' := by
  have hm := h.len
  have hm' := h'.len
  by_cases hlen : l.length = m.length
  · have hb : (((l.length : Int)) != (m.length : Int)) = false := by rw [hlen]; simp
    go_enter Try.func16, Try.ntmps16
    go_wp2
    have HL := Lib.hid hlen
    clear hlen hb
    go_loopw [5] (fun i wr => ∃ k : Nat, k ≤ l.length ∧ i = .int .i64 k ∧ (∀ j, (h1 : j < l.length) → (h2 : j < m.length) → j < k → l[j] = m[j]) ∧ Quiet w wr) (fun i _ => l.length - (intOf i).toNat)
    case atStart => exact ⟨0, by omega, rfl, fun j _ _ hj => by omega, Quiet.refl _⟩
    case round =>
      obtain ⟨k, hk, rfl, hpre, hq⟩ := hrel
      by_cases hlt : k < l.length
      · have hlt' : k < m.length := by rw [← HL.out]; exact hlt
        obtain ⟨b, off, rfl, _, hc⟩ := h.at (by have := h.le; omega)
        obtain ⟨b', off', rfl, _, hc'⟩ := h'.at (by have := h'.le; omega)
        have hck := hc k hlt
        have hck' := hc' k hlt'
        have HN : Hid (l[k] ≠ m[k] → eqb l m = false) := eqb_no hlt hlt'
        have HY : Hid (l[k] = m[k] → ∀ j, (h1 : j < l.length) → (h2 : j < m.length) → j < k + 1 → l[j] = m[j]) := by
          intro e j h1 h2 h3
          rcases Nat.lt_or_ge j k with h4 | h4
          · exact hpre j h1 h2 h4
          · obtain rfl : j = k := by omega
            exact e
        clear hc hc' h h' hpre
        generalize l[k] = x at *
        generalize m[k] = y at *
        obtain ⟨n, rfl⟩ := hq
        by_cases hxy : x = y
        · subst hxy
          have hne : ((x : Int) != (x : Int)) = false := by simp
          go_wp2
          go_quiet (fail)
          go_wp2
          exact ⟨⟨k + 1, by omega, by go_num, HY.out trivial, (by first | exact ⟨_, rfl⟩ | exact Quiet.drewN ⟨_, rfl⟩ _)⟩, by simp [intOf]; omega⟩
        · have hne : ((x : Int) != (y : Int)) = true := by rw [bne_iff_ne]; omega
          have HE := Lib.hid (HN.out hxy)
          clear HY HN hxy
          go_wp2
          go_quiet (fail)
          go_wp2
          go_ret
          exact ⟨by rw [HE.out]; rfl, (by first | exact ⟨_, rfl⟩ | exact Quiet.drewN ⟨_, rfl⟩ _)⟩
      · have HE := Lib.hid (eqb_yes HL.out fun j h1 h2 => hpre j h1 h2 (by omega))
        clear hpre
        go_wp2
        go_ret
        exact ⟨by rw [HE.out]; rfl, hq⟩
  · have hb : (((l.length : Int)) != (m.length : Int)) = true := by rw [bne_iff_ne]; omega
    have HE := Lib.hid (eqb_len hlen)
    clear hlen
    go_enter Try.func16, Try.ntmps16
    go_wp2
    go_ret
    exact ⟨by rw [HE.out]; rfl, Quiet.refl _⟩
end Go.Proofs.Ytlmodgdglejlpaa
