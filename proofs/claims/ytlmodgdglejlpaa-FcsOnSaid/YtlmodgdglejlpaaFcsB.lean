import Derived.Test.YtlmodgdglejlpaaFcsA
namespace Go.Proofs.Ytlmodgdglejlpaa
open Go.RowKit
set_option linter.unusedVariables false
set_option linter.unusedSimpArgs false

set_option maxHeartbeats 400000 in
theorem on_any (s : Nat) (l : List Nat) (a : Option Addr) (cap : Nat) (w : World) (hs : s < 65536) (h : BRow w a cap l) :
    Calls Try.prog 14 #[.int .u16 s, .slice a l.length cap] w fun e w' => e = .returned (.int .u16 (M.on s l : Nat)) ∧ w = w' := by
  have hm := h.len
  go_enter Try.func14, Try.ntmps14
  go_wp2
  go_loop [0, 6, 9] (fun n _ i => ∃ k : Nat, k ≤ l.length ∧ i = .int .i64 k ∧ n = .int .u16 (M.on s (l.take k) : Nat)) (fun _ _ i => l.length - (intOf i).toNat)
  case atStart => exact ⟨0, by omega, rfl, rfl⟩
  case round =>
    obtain ⟨k, hk, rfl, rfl⟩ := hrel
    have hl := M.on_lt (l.take k) s hs (fun x hx => h.byte x (List.mem_of_mem_take hx))
    by_cases hlt : k < l.length
    · obtain ⟨b, off, rfl, _, hc⟩ := h.at (by have := h.le; omega)
      have hck := hc k hlt
      have hb := h.byte_at hlt
      have HN := Lib.hid (M.on_take_succ s l k hlt)
      generalize l[k] = x at *
      generalize M.on s (l.take k) = y at *
      clear hc h
      go_wp2_with (go_at_call 12; refine (step_any _ _ _ hl hb).mono ?_; rintro e w' ⟨rfl, rfl⟩)
      exact ⟨⟨k + 1, by omega, by go_num, by rw [HN.out]⟩, by simp [intOf]; omega⟩
    · have HE : Hid (M.on s (l.take k) = M.on s l) := by show _ = _; rw [List.take_of_length_le (by omega)]
      go_wp2
      go_ret
      exact ⟨by rw [← HE.out]; rfl, rfl⟩

set_option maxHeartbeats 400000 in
theorem ron_any (s : Nat) (l : List Nat) (a : Option Addr) (cap : Nat) (w : World) (hs : s < 65536) (h : BRow w a cap l) :
    Calls Try.prog 15 #[.int .u16 s, .slice a l.length cap] w fun e w' => e = .returned (.int .u16 (M.on s l : Nat)) ∧ w = w' := by
  have hm := h.len
  go_enter Try.func15, Try.ntmps15
  go_wp2
  go_loop [0, 5] (fun n i => ∃ k : Nat, k ≤ l.length ∧ i = .int .i64 k ∧ n = .int .u16 (M.on s (l.take k) : Nat)) (fun _ i => l.length - (intOf i).toNat)
  case atStart => exact ⟨0, by omega, rfl, rfl⟩
  case round =>
    obtain ⟨k, hk, rfl, rfl⟩ := hrel
    have hl := M.on_lt (l.take k) s hs (fun x hx => h.byte x (List.mem_of_mem_take hx))
    by_cases hlt : k < l.length
    · obtain ⟨b, off, rfl, _, hc⟩ := h.at (by have := h.le; omega)
      have hck := hc k hlt
      have hb := h.byte_at hlt
      have HN := Lib.hid (M.on_take_succ s l k hlt)
      generalize l[k] = x at *
      generalize M.on s (l.take k) = y at *
      clear hc h
      go_wp2_with (go_at_call 13; refine (rstep_any _ _ _ hl hb).mono ?_; rintro e w' ⟨rfl, rfl⟩)
      exact ⟨⟨k + 1, by omega, by go_num, by rw [HN.out]⟩, by simp [intOf]; omega⟩
    · have HE : Hid (M.on s (l.take k) = M.on s l) := by show _ = _; rw [List.take_of_length_le (by omega)]
      go_wp2
      go_ret
      exact ⟨by rw [← HE.out]; rfl, rfl⟩
end Go.Proofs.Ytlmodgdglejlpaa
