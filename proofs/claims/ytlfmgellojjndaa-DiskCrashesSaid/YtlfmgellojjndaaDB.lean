/- Disks: what is copied, what stands behind writes. -/
import Derived.Test.YtlfmgellojjndaaDA
namespace Go.Proofs.Ytlfmgellojjndaa
open Go.RowKit
set_option linter.unusedVariables false
set_option linter.unusedSimpArgs false
theorem wrs_cells (ws : List Wr) : ∀ x ∈ wrs ws, x.cells.length = 2 := fun x hx => by
  obtain ⟨p, _, rfl⟩ := List.mem_map.1 hx
  rfl
theorem secs_cells (l : List (List Nat)) : ∀ x ∈ secs l, x.cells.length = 1 := fun x hx => by
  obtain ⟨p, _, rfl⟩ := List.mem_map.1 hx
  rfl
def dWr : List D := [.data (.int .i64 0), .emp 0]
theorem wrs_at {ws : List Wr} {i : Nat} (h : i < ws.length) : (wrs ws)[i]'(by simpa [wrs] using h) = wr ws[i] := by simp [wrs]
theorem secs_at {l : List (List Nat)} {i : Nat} (h : i < l.length) : (secs l)[i]'(by simpa [secs] using h) = sec l[i] := by simp [secs]
set_option maxRecDepth 100000 in
theorem copiedPuts_oc (Γ : Nat → Option (List Data)) (ws : List Wr) (hw : ∀ p ∈ ws, p.2.length ≤ 1000) (hl : ws.length ≤ 1000) : OC Try.prog Γ 26 [.sl 2 (wrs ws)] (.ref 0 0 ws.length 2) [(0, .blk true ((flat (wrs ws)).map .data))] 1 := by
  refine oc_by mixed Try.func26 rfl (fun args w => Try.call26 args w) ?_
  have hF : ∀ x ∈ wrs ws, x.cells.length = dWr.length := wrs_cells ws
  have r0 := rowc_zero (wrs ws) dWr
  rw [wrs_length] at r0
  simp -implicitDefEqProofs (disch := omega) [go_sem, Try.f26]
  refine loop_ren (σ := { i : Nat // i ≤ ws.length }) (fun i => ⟨envL [(3, .ref 0 0 ws.length 2), (9, .data (.sl 2 (wrs ws))), (10, .data (.int .i64 ws.length)), (11, .data (.int .i64 i.1))], hpL [(0, .blk true (rowc (wrs ws) dWr i.1))], 1, 0, 27⟩) (fun i => ws.length - i.1) ⟨0, by omega⟩ [] (rhoL [(0, some 3)]) ?_ ?_
  · apply ren_lists <;> simp -implicitDefEqProofs [go_sem]
    exact renCells_rowc rfl r0
  · rintro ⟨i, hi⟩
    have hrl : (rowc (wrs ws) dWr i).length = ws.length * 2 := by rw [rowc_length hF i (by rw [wrs_length]; exact hi), wrs_length]; rfl
    by_cases h : i < ws.length
    · have hwl := hw _ (List.getElem_mem h)
      have hov := rowc_over hF (i := i) (by rw [wrs_length]; exact h)
      rw [wrs_at h] at hov
      have hov2 := (over2 _ _ _ _).symm.trans hov
      have hcp := copied_pc Γ ws[i].2 (by omega)
      simp -implicitDefEqProofs (disch := omega) [go_sem]
      refine call_data hcp (by simp [go_sem]) ?_
      simp -implicitDefEqProofs (disch := omega) [go_sem]
      refine side (by kernel_rfl) ?_
      simp -implicitDefEqProofs (disch := omega) [go_sem]
      refine next_ren ⟨i + 1, by omega⟩ (by simp only; omega) [] (rhoL []) ?_
      apply ren_lists <;> simp -implicitDefEqProofs [go_sem]
      exact renCells_rowc rfl hov2.symm
    · have : i = ws.length := by omega
      subst this
      simp -implicitDefEqProofs (disch := omega) [go_sem, Try.f26]
      refine own_of [] [(0, some 0)] ?_
      have re := rowc_end (wrs ws) dWr
      rw [wrs_length] at re
      apply ren_lists <;> simp -implicitDefEqProofs [go_sem, re]
def flush (s : List (List Nat)) (ws : List Wr) : List (List Nat) := (List.range s.length).map fun i : Nat => std (i : Int) (s.getD i []) ws
theorem flush_length (s : List (List Nat)) (ws : List Wr) : (flush s ws).length = s.length := by simp [flush]
theorem flush_at (s : List (List Nat)) (ws : List Wr) (i : Nat) (h : i < s.length) : (flush s ws)[i]'(by rw [flush_length]; exact h) = std (i : Int) s[i] ws := by
  simp [flush, List.getD_eq_getElem?_getD, h]
theorem flush_nil (s : List (List Nat)) : flush s [] = s := by
  apply List.ext_getElem?
  intro i
  by_cases h : i < s.length
  · simp [flush, std, h]
  · simp [flush, h]
def dSec : List D := [.emp 0]
def dk (s : List (List Nat)) (w : List Wr) : Data := .agg [.sl 1 (secs s), .sl 2 (wrs w)]
set_option maxRecDepth 100000 in
theorem behind_pc (Γ : Nat → Option (List Data)) (s : List (List Nat)) (w ws : List Wr) (hs : ∀ b ∈ s, b.length = 128) (hn : s.length ≤ 1000) (hw : ∀ p ∈ ws, p.2.length = 128) (hl : ws.length ≤ 1000) : PC Try.prog Γ 25 [dk s w, .sl 2 (wrs ws)] (dk (flush s ws) []) := by
  refine pc_by mixed Try.func25 rfl (fun args w => Try.call25 args w) ?_
  have hF : ∀ x ∈ secs (flush s ws), x.cells.length = dSec.length := secs_cells _
  have r0 := rowc_zero (secs (flush s ws)) dSec
  have re := rowc_end (secs (flush s ws)) dSec
  rw [secs_length, flush_length] at r0 re
  have r0' : rowc (secs (flush s ws)) dSec 0 = List.replicate s.length (D.emp 0) := by rw [r0]; simp [dSec]
  simp -implicitDefEqProofs (disch := omega) [go_sem, Try.f25, dk]
  refine loop_ren (σ := { i : Nat // i ≤ s.length }) (fun i => ⟨envL [(1, .data (.sl 2 (wrs ws))), (4, .ptr 0 0), (5, .ref 1 0 s.length 1), (13, .data (.sl 1 (secs s))), (14, .data (.int .i64 s.length)), (15, .data (.int .i64 i.1))], hpL [(0, .blk true [.emp 0, .emp 0]), (1, .blk true (rowc (secs (flush s ws)) dSec i.1))], 2, 0, 30⟩) (fun i => s.length - i.1) ⟨0, by omega⟩ [] (rhoL [(0, some 1), (1, some 5)]) ?_ ?_
  · apply ren_lists <;> simp -implicitDefEqProofs [go_sem]
    exact renCells_rowc rfl r0'
  · rintro ⟨i, hi⟩
    have hrl : (rowc (secs (flush s ws)) dSec i).length = s.length := by rw [rowc_length hF i (by rw [secs_length, flush_length]; exact hi), secs_length, flush_length]; simp [dSec]
    by_cases h : i < s.length
    · have hov := rowc_over hF (i := i) (by rw [secs_length, flush_length]; exact h)
      rw [secs_at (by rw [flush_length]; exact h), flush_at s ws i h] at hov
      have hov1 : (rowc (secs (flush s ws)) dSec i).set i (.data (.sl 1 (bys (std (i : Int) s[i] ws)))) = rowc (secs (flush s ws)) dSec (i + 1) := by
        have := (over1 _ _ _).symm.trans hov
        simpa [dSec, sec] using this
      have hst := stands_pc Γ s[i] i ws (hs _ (List.getElem_mem h)) hw hl
      simp -implicitDefEqProofs (disch := omega) [go_sem, sec]
      refine .inl (call_data hst (by simp [go_sem]) ?_)
      simp -implicitDefEqProofs (disch := omega) [go_sem]
      refine next_ren ⟨i + 1, by omega⟩ (by simp only; omega) [] (rhoL []) ?_
      apply ren_lists <;> simp -implicitDefEqProofs [go_sem]
      exact renCells_rowc rfl hov1.symm
    · have : i = s.length := by omega
      subst this
      simp -implicitDefEqProofs (disch := omega) [go_sem, Try.f25, re]
      exact ⟨_, ⟨_, rfl, frz_aggL (frzL_c (frz_ref (rw := true) (cells := (flat (secs (flush s ws))).map D.data) (by simp [go_sem]) (.inl rfl) (by rw [secs_length, flush_length]) (secs_cells _) rfl) (frzL_c (.emp 0 2) frzL_n))⟩, rfl⟩
structure Dok (s : List (List Nat)) (w : List Wr) : Prop where
  n : s.length = 64
  len : ∀ b ∈ s, b.length = 128
  lt : ∀ b ∈ s, ∀ x ∈ b, x < 256
  wlen : ∀ p ∈ w, p.2.length = 128
  wat : ∀ p ∈ w, 0 ≤ p.1 ∧ p.1 < 64
  wlt : ∀ p ∈ w, ∀ x ∈ p.2, x < 256
  wn : w.length ≤ 200
theorem flush_ok {s : List (List Nat)} {w ws : List Wr} (h : Dok s w) (hs : ∀ p ∈ ws, p ∈ w) : Dok (flush s ws) [] where
  n := by rw [flush_length]; exact h.n
  len := fun b hb => by
    obtain ⟨i, hi, rfl⟩ := List.getElem_of_mem hb
    rw [flush_at s ws i (by rw [flush_length] at hi; exact hi)]
    exact std_len (h.len _ (List.getElem_mem _)) fun p hp => h.wlen p (hs p hp)
  lt := fun b hb => by
    obtain ⟨i, hi, rfl⟩ := List.getElem_of_mem hb
    rw [flush_at s ws i (by rw [flush_length] at hi; exact hi)]
    exact std_lt (h.lt _ (List.getElem_mem _)) fun p hp => h.wlt p (hs p hp)
  wlen := fun p hp => by cases hp
  wat := fun p hp => by cases hp
  wlt := fun p hp => by cases hp
  wn := by simp
theorem flushes_pc (Γ : Nat → Option (List Data)) (s : List (List Nat)) (w : List Wr) (h : Dok s w) : PC Try.prog Γ 18 [dk s w] (dk (flush s w) []) := by
  refine pc_by mixed Try.func18 rfl (fun args w => Try.call18 args w) ?_
  have hb := behind_pc Γ s w w h.len (by have := h.n; omega) h.wlen (by have := h.wn; omega)
  simp -implicitDefEqProofs (disch := omega) [go_sem, Try.f18, dk]
  refine .inl (call_data hb (by simp [go_sem, dk]) ?_)
  simp -implicitDefEqProofs (disch := omega) [go_sem, dk]
theorem read_pc (Γ : Nat → Option (List Data)) (s : List (List Nat)) (w : List Wr) (h : Dok s w) (a : Int) : PC Try.prog Γ 14 [dk s w, .int .i64 a] (if 0 ≤ a ∧ a < 64 then .tup [.sl 1 (bys (std a (s.getD a.toNat []) w)), .int .i64 0] else .tup [.sl 1 [], .int .i64 1]) := by
  refine pc_by mixed Try.func14 rfl (fun args w => Try.call14 args w) ?_
  have hn := h.n
  by_cases ha : 0 ≤ a ∧ a < 64
  · have his := isSector_pc Γ a
    rw [decide_eq_true ha] at his
    rw [if_pos ha]
    have hlt : a.toNat < s.length := by omega
    have hgd : s.getD a.toNat [] = s[a.toNat] := by simp [List.getD_eq_getElem?_getD, hlt]
    have hst := stands_pc Γ s[a.toNat] a w (h.len _ (List.getElem_mem hlt)) h.wlen (by have := h.wn; omega)
    rw [hgd]
    simp -implicitDefEqProofs (disch := omega) [go_sem, Try.f14, dk]
    refine .inl (call_data his (by simp [go_sem]) ?_)
    simp -implicitDefEqProofs (disch := omega) [go_sem, sec]
    refine call_data hst (by simp [go_sem]) ?_
    simp -implicitDefEqProofs (disch := omega) [go_sem]
    refine side (by kernel_rfl) ?_
    simp -implicitDefEqProofs (disch := omega) [go_sem, Try.f14]
  · have his := isSector_pc Γ a
    rw [decide_eq_false ha] at his
    rw [if_neg ha]
    simp -implicitDefEqProofs (disch := omega) [go_sem, Try.f14, dk]
    refine .inl (call_data his (by simp [go_sem]) ?_)
    simp -implicitDefEqProofs (disch := omega) [go_sem, Try.f14]
    exact ⟨_, ⟨_, rfl, .emp 1 1⟩, rfl⟩
end Go.Proofs.Ytlfmgellojjndaa
