/- Disks: DiskNone, DiskReads. -/
import Derived.Test.YtlfmgellojjndaaDI
namespace Go.Proofs.Ytlfmgellojjndaa
open Go.RowKit
set_option linter.unusedVariables false
set_option linter.unusedSimpArgs false
theorem none_read {a : Int} (ha : 0 ≤ a ∧ a < 64) : std a (zeroS.getD a.toNat []) [] = noughts := zero_at a.toNat (by omega)
set_option maxHeartbeats 4000000 in
set_option maxRecDepth 100000 in
theorem none_pc (Γ : Nat → Option (List Data)) (s : List (List Nat)) (w : List Wr) (d : Din s w) (a : Int) : PC Try.prog Γ 8 [dk s w, .int .i64 a] (.bool true) := by
  refine pc_by mixed Try.func8 rfl (fun args w => Try.call8 args w) ?_
  have hsm := rsmall_pc Γ s w d.sn d.wn
  have hrt := rright_pc Γ s w d.sn d.wn
  simp -implicitDefEqProofs (disch := omega) [go_sem, dk]
  refine .inl (call_data (shown_pc Γ) (by simp [go_sem]) ?_)
  simp -implicitDefEqProofs (disch := omega) [go_sem]
  refine .inl (call_data hsm (by simp [go_sem, dk]) ?_)
  by_cases h1 : Sm s w
  · simp -implicitDefEqProofs (disch := omega) [go_sem, h1]
    refine .inl (call_data hrt (by simp [go_sem, dk]) ?_)
    by_cases h2 : Rt s w
    · have hok := dok_of d h1 h2
      have hn := hok.n
      have c1 := crash_pc Γ s w hok [] (by simp)
      have hk0 : kept [] 0 w = [] := by
        have : ∀ (w : List Wr) (i : Nat), kept [] i w = [] := fun w => by
          induction w with
          | nil => intro i; rfl
          | cons p w ih => intro i; simp only [kept, ih]; simp [keepAt]
        exact this w 0
      rw [hk0, flush_nil] at c1
      have c2 := read_pc Γ zeroS [] ok_zero a
      obtain ⟨r, e, hre, hcase⟩ : ∃ (r : List Nat) (e : Int), PC Try.prog Γ 14 [dk zeroS [], .int .i64 a] (.tup [.sl 1 (bys r), .int .i64 e]) ∧ ((0 ≤ a ∧ a < 64 ∧ r = noughts ∧ e = 0) ∨ (¬ (0 ≤ a ∧ a < 64) ∧ r = [] ∧ e = 1)) := by
        by_cases ha : 0 ≤ a ∧ a < 64
        · rw [if_pos ha, none_read ha] at c2
          exact ⟨_, _, c2, .inl ⟨ha.1, ha.2, rfl, rfl⟩⟩
        · rw [if_neg ha] at c2
          exact ⟨[], 1, c2, .inr ⟨ha, rfl, rfl⟩⟩
      simp -implicitDefEqProofs (disch := omega) [go_sem, h2]
      refine .inl (call_frz [] [] (by simp) c1 (fun H' _ => frzL_c ((frz_data _ _ _ _).2 rfl) (frzL_c (.emp _ _) frzL_n)) ?_)
      simp -implicitDefEqProofs (disch := omega) [go_sem, dk]
      refine .inl (call_data (new_pc Γ) (by simp [go_sem]) ?_)
      simp -implicitDefEqProofs (disch := omega) [go_sem]
      refine .inl (call_data hre (by simp [go_sem, dk]) ?_)
      simp -implicitDefEqProofs (disch := omega) [go_sem]
      refine loop_ren (σ := { i : Nat // i ≤ s.length }) (fun i => ⟨envL [(1, .data (.int .i64 a)), (2, .ptr 0 0), (5, .data (.bool true)), (6, .ptr 1 0), (7, .data (.sl 1 (bys r))), (8, .data (.int .i64 e)), (9, .data (.int .i64 i.1))], hpL [(0, .blk true [.data (.sl 1 (secs s)), .data (.sl 2 (wrs w))]), (1, .blk true [.data (.sl 1 (secs s)), .data (.sl 2 (wrs []))])], 2, 0, 86⟩) (fun i => s.length - i.1) ⟨0, by omega⟩ [] (rhoL [(1, some 14)]) ?_ ?_
      · apply ren_lists <;> simp -implicitDefEqProofs [go_sem]
      · rintro ⟨i, hi⟩
        by_cases hs : i < s.length
        · have l1 := hok.len _ (List.getElem_mem hs)
          have c5 := row_pc Γ s[i] s[i] (by omega) (by omega)
          simp only [decide_true] at c5
          simp -implicitDefEqProofs (disch := omega) [go_sem, sec]
          refine call_data c5 (by simp [go_sem]) ?_
          simp -implicitDefEqProofs (disch := omega) [go_sem]
          refine side (by kernel_rfl) ?_
          simp -implicitDefEqProofs (disch := omega) [go_sem]
          refine next_ren ⟨i + 1, by omega⟩ (by simp only; omega) [] (rhoL []) ?_
          apply ren_lists <;> simp -implicitDefEqProofs [go_sem]
        · rcases hcase with ⟨a1, a2, rfl, rfl⟩ | ⟨ha, rfl, rfl⟩
          · have c4 := row_pc Γ noughts noughts (by show 128 ≤ _; omega) (by show 128 ≤ _; omega)
            simp only [decide_true] at c4
            simp -implicitDefEqProofs (disch := omega) [go_sem]
            refine .inl (call_bare [20] c4 (.bool _) (fun H' hH' => frzL_c ((frz_data _ _ _ _).2 rfl) (frzL_c (frz_bys (rw := true) (l := noughts) (by rw [hH' 20 (by simp)]; simp [go_sem]; rfl) (.inl rfl) rfl) frzL_n)) ?_)
            simp -implicitDefEqProofs (disch := omega) [go_sem, Try.f8]
          · by_cases a1 : 0 ≤ a
            · simp -implicitDefEqProofs (disch := omega) [go_sem, Try.f8]
            · simp -implicitDefEqProofs (disch := omega) [go_sem, Try.f8]
    · simp -implicitDefEqProofs (disch := omega) [go_sem, h2, Try.f8]
  · simp -implicitDefEqProofs (disch := omega) [go_sem, h1, Try.f8]
theorem law_DiskNone (Γ : Nat → Option (List Data)) {x0 x1 : Data} (a0 : argD Try.prog 8 25 x0) (a1 : argD Try.prog 8 3 x1) : PC Try.prog Γ 8 [x0, x1] (.bool true) := by
  obtain ⟨s, w, d, rfl⟩ := arg_disk a0
  obtain ⟨a, _, _, rfl⟩ := arg_i64 Try.underlying3 a1
  exact none_pc Γ s w d a
end Go.Proofs.Ytlfmgellojjndaa
