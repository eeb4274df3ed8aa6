/- Disks: the document's example, at the head of all statements. -/
import Derived.Test.YtlfmgellojjndaaDF
namespace Go.Proofs.Ytlfmgellojjndaa
open Go.RowKit
set_option linter.unusedVariables false
set_option linter.unusedSimpArgs false
def sev : List Nat := 7 :: List.replicate 127 0
set_option maxRecDepth 100000 in
theorem ok_zero : Dok zeroS [] where
  n := rfl
  len := fun b hb => by rw [List.eq_of_mem_replicate hb]; rfl
  lt := fun b hb x hx => by rw [List.eq_of_mem_replicate hb] at hx; have := List.eq_of_mem_replicate hx; omega
  wlen := fun p hp => by cases hp
  wat := fun p hp => by cases hp
  wlt := fun p hp => by cases hp
  wn := by simp
theorem sev_len : sev.length = 128 := by unfold sev; rw [List.length_cons, List.length_replicate]
set_option maxRecDepth 100000 in
theorem sev_lt : ∀ x ∈ sev, x < 256 := by
  intro x hx
  unfold sev at hx
  simp only [List.mem_cons, List.mem_replicate] at hx
  omega
theorem dok_add {s : List (List Nat)} {w : List Wr} (h : Dok s w) {a : Int} {b : List Nat} (ha : 0 ≤ a ∧ a < 64) (hb : b.length = 128) (hlt : ∀ x ∈ b, x < 256) (hn : w.length < 200) : Dok s (w ++ [(a, b)]) where
  n := h.n
  len := h.len
  lt := h.lt
  wlen := fun p hp => by
    rcases List.mem_append.1 hp with hp | hp
    · exact h.wlen p hp
    · simp at hp; subst hp; exact hb
  wat := fun p hp => by
    rcases List.mem_append.1 hp with hp | hp
    · exact h.wat p hp
    · simp at hp; subst hp; exact ha
  wlt := fun p hp => by
    rcases List.mem_append.1 hp with hp | hp
    · exact h.wlt p hp
    · simp at hp; subst hp; exact hlt
  wn := by simp; omega
theorem ok_sev : Dok zeroS [(3, sev)] := dok_add (w := []) ok_zero (by omega) sev_len sev_lt (by simp)
theorem zero_at (i : Nat) (h : i < 64) : zeroS.getD i [] = noughts := by
  have : i < zeroS.length := h
  rw [List.getD_eq_getElem?_getD, List.getElem?_eq_getElem this]
  exact List.eq_of_mem_replicate (List.getElem_mem this)
set_option maxRecDepth 100000 in
theorem shown_pc (Γ : Nat → Option (List Data)) : PC Try.prog Γ 9 [] (.bool true) := by
  refine pc_by mixed Try.func9 rfl (fun args w => Try.call9 args w) ?_
  have hW : PC Try.prog Γ 12 [dk zeroS [], .int .i64 3, .sl 1 (bys sev)] (.tup [dk zeroS [(3, sev)], .int .i64 0]) := write_pc Γ zeroS [] ok_zero 3 sev (by rw [sev_len]; omega)
  have hR : PC Try.prog Γ 14 [dk zeroS [(3, sev)], .int .i64 3] (.tup [.sl 1 (bys sev), .int .i64 0]) := read_pc Γ zeroS [(3, sev)] ok_sev 3
  have hC : PC Try.prog Γ 20 [dk zeroS [(3, sev)], .sl 1 (bools [])] (dk zeroS []) := by
    have := crash_pc Γ zeroS [(3, sev)] ok_sev [] (by simp)
    rwa [show kept [] 0 [(3, sev)] = [] from rfl, flush_nil] at this
  have hR2 : PC Try.prog Γ 14 [dk zeroS [], .int .i64 3] (.tup [.sl 1 (bys noughts), .int .i64 0]) := by
    have := read_pc Γ zeroS [] ok_zero 3
    rw [if_pos (by omega), show (3 : Int).toNat = 3 from rfl, zero_at 3 (by omega)] at this
    exact this
  have hF := flushes_pc Γ zeroS [(3, sev)] ok_sev
  have hR3 : PC Try.prog Γ 14 [dk (flush zeroS [(3, sev)]) [], .int .i64 3] (.tup [.sl 1 (bys sev), .int .i64 0]) := by
    have := read_pc Γ _ [] (flush_ok ok_sev (fun p hp => hp)) 3
    rw [if_pos (by omega)] at this
    have e : (flush zeroS [(3, sev)]).getD (3 : Int).toNat [] = sev := by
      have hz : 3 < zeroS.length := by show 3 < 64; omega
      have h3 : 3 < (flush zeroS [(3, sev)]).length := by rw [flush_length]; exact hz
      rw [show (3 : Int).toNat = 3 from rfl, List.getD_eq_getElem?_getD, List.getElem?_eq_getElem h3, flush_at _ _ 3 hz]
      rfl
    rw [e] at this
    exact this
  have hRt := right_pc Γ zeroS [(3, sev)] ok_sev
  have hSm := same_pc Γ zeroS zeroS [(3, sev)] [(3, sev)] ok_sev ok_sev
  rw [decide_eq_true (show zeroS = zeroS ∧ [((3 : Int), sev)] = [(3, sev)] from ⟨rfl, rfl⟩)] at hSm
  have g0 : sev[0]? = some 7 := rfl
  have n0 : noughts[0]? = some 0 := rfl
  have nl : noughts.length = 128 := rfl
  simp -implicitDefEqProofs (disch := omega) [go_sem, Try.f9]
  refine .inl (call_data (new_pc Γ) (by simp [go_sem]) ?_)
  simp -implicitDefEqProofs (disch := omega) [go_sem]
  refine .inl (call_keep 1 (rw := true) (cells := (bys sev).map D.data) hW (by simp [go_sem]; rfl) (fun H' hH' => frzL_c ((frz_data _ _ _ _).2 rfl) (frzL_c ((frz_data _ _ _ _).2 rfl) (frzL_c (frz_bys (rw := false) hH' (.inr rfl) sev_len) frzL_n))) ?_)
  simp -implicitDefEqProofs (disch := omega) [go_sem, dk]
  refine .inl (call_data hR (by simp [go_sem, dk]) ?_)
  simp -implicitDefEqProofs (disch := omega) [go_sem]
  refine .inl (call_frz [] [] (by simp) hC (fun H' _ => frzL_c ((frz_data _ _ _ _).2 rfl) (frzL_c (.emp _ _) frzL_n)) ?_)
  simp -implicitDefEqProofs (disch := omega) [go_sem]
  refine .inl (call_data hR2 (by simp [go_sem, dk]) ?_)
  simp -implicitDefEqProofs (disch := omega) [go_sem]
  refine .inl (call_data hF (by simp [go_sem, dk]) ?_)
  simp -implicitDefEqProofs (disch := omega) [go_sem]
  refine .inl (call_data hR3 (by simp [go_sem, dk]) ?_)
  simp -implicitDefEqProofs (disch := omega) [go_sem]
  refine .inl (call_data hRt (by simp [go_sem, dk]) ?_)
  simp -implicitDefEqProofs (disch := omega) [go_sem]
  refine .inl (call_data hSm (by simp [go_sem, dk]) ?_)
  simp -implicitDefEqProofs (disch := omega) [go_sem, sev_len, nl, g0, n0, -getElem?_pos, Try.f9]
end Go.Proofs.Ytlfmgellojjndaa
