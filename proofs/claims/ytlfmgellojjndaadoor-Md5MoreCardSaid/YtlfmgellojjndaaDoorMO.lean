import Derived.Test.YtlfmgellojjndaaDoorMN
namespace Go.Proofs.YtlfmgellojjndaaDoor
open Go.RowKit
set_option linter.unusedVariables false
set_option linter.unusedSimpArgs false
theorem bare_sw (s : M5.St) : Bare (stD s) := .agg _ fun x hx => by
  simp [sw] at hx
  rcases hx with rfl | rfl | rfl | rfl <;> exact .int _ _
set_option maxHeartbeats 1000000 in
set_option maxRecDepth 100000 in
theorem more_pc (Γ : Nat → Option (List Data)) (hΓ : Tabs Γ) (m : List Nat) (hm : m.length = 64) (bm : ∀ x ∈ m, x < 256) (n : Nat) (hn : n < 256) (b : List Nat) (lb : b.length ≤ 140737488351232) (hb : ∀ x ∈ b, x < 256) :
    PC Tryd.prog Γ 6 [.agg (bys m), .int .u8 n, .sl 1 (bys b)] (.bool true) := by
  refine pc_by mixed Tryd.func6 rfl (fun args w => Tryd.call6 args w) ?_
  by_cases h : 300 < b.length
  · simp -implicitDefEqProofs (disch := omega) [go_sem, Tryd.f6]
    refine .inl (call_data (shown_pc Γ hΓ) (by simp [go_sem]) ?_)
    simp -implicitDefEqProofs (disch := omega) [go_sem, Tryd.f6]
  simp -implicitDefEqProofs (disch := omega) [go_sem, Tryd.f6]
  refine .inl (call_data (shown_pc Γ hΓ) (by simp [go_sem]) ?_)
  simp -implicitDefEqProofs (disch := omega) [go_sem]
  obtain ⟨k, hk, hk8⟩ : ∃ k : Nat, (n : Int) % 8 = k ∧ k < 8 := ⟨n % 8, by omega, by omega⟩
  simp -implicitDefEqProofs (disch := omega) [go_sem, hk]
  have htm : List.take 64 m = m := List.take_of_length_le (by omega)
  refine loop_ren (σ := { i : Nat // i ≤ k }) (fun i => ⟨envL [(2, .data (.sl 1 (bys b))), (3, .ptr 0 0), (7, .data (.bool true)), (8, .data (.int .i64 k)), (9, .ref 2 0 (64 * i.1) 1), (10, .ptr 1 0), (11, .data (.int .i64 i.1))], hpL [(0, .blk true ((bys m).map .data)), (1, .blk true ((sw (M5.iter M5.first m i.1)).map .data)), (2, .blk true ((bys (M5.reps m i.1)).map .data))], 3, 0, 102⟩) (fun i => k - i.1) ⟨0, by omega⟩ [] (rhoL [(1, some 13), (2, none)]) ?_ ?_
  · apply ren_lists <;> simp -implicitDefEqProofs [go_sem, M5.iter, M5.reps, sw, u32, M5.first]
  · rintro ⟨i, hi⟩
    have hrl := M5.reps_length hm i
    by_cases hik : i < k
    · have hok := M5.iter_ok M5.first_ok m i
      simp -implicitDefEqProofs (disch := omega) [go_sem]
      refine call_bare [0] (block_pc Γ hΓ _ hok m hm bm) (bare_sw _) (fun H' hH' => frzL_c ((frz_data _ _ _ _).2 rfl) (frzL_c (frz_ref (rw := true) (cells := (bys m).map D.data) (by rw [hH' 0 (by simp)]; simp [go_sem]) (.inl rfl) (by rw [bys_length, hm]) (bys_cells _) (by rw [flat_bys])) frzL_n)) ?_
      simp -implicitDefEqProofs (disch := omega) [go_sem, stD]
      refine side (by kernel_rfl) ?_
      simp -implicitDefEqProofs (disch := omega) [go_sem]
      refine next_ren ⟨i + 1, by omega⟩ (by simp only; omega) [] (rhoL [(2, some 8)]) ?_
      apply ren_lists <;> simp -implicitDefEqProofs [go_sem, M5.iter, M5.reps_succ, htm]
      all_goals omega
    · have : i = k := by omega
      subst this
      have t64 : (64 * (i : Int)).toNat = 64 * i := by omega
      have htr : List.take (64 * i) (M5.reps m i) = M5.reps m i := List.take_of_length_le (by omega)
      have hbl : ∀ x ∈ M5.reps m i ++ b, x < 256 := fun x hx => by
        rcases List.mem_append.1 hx with hx | hx
        · exact M5.reps_lt bm i x hx
        · exact hb x hx
      have hll : (M5.reps m i ++ b).length = 64 * i + b.length := by rw [List.length_append, hrl]
      have hpad := pad_pc Γ (M5.reps m i ++ b) (by omega)
      have hsum := sum_pc Γ hΓ (M5.reps m i ++ b) (by omega) hbl
      have ptake := M5.pad_take_reps hm i b
      have pfin := M5.final_reps hm i b
      have hmod := M5.pad_mod (M5.reps m i ++ b)
      have hpb := M5.pad_lt hbl
      have hlen := M5.pad_length (M5.reps m i ++ b)
      have hz := M5.pz_lt (M5.reps m i ++ b).length
      have hfinal : ∀ j, j = (M5.pad (M5.reps m i ++ b)).length / 64 → M5.blocks M5.first (M5.pad (M5.reps m i ++ b)) j = M5.final (M5.reps m i ++ b) := fun j e => by rw [e]; rfl
      simp -implicitDefEqProofs (disch := omega) [go_sem, htr]
      refine .inl (call_kept _ _ (M5.reps m i ++ b) hpad (by simp [go_sem]) hll ?_)
      generalize M5.pad (M5.reps m i ++ b) = p at *
      simp -implicitDefEqProofs (disch := omega) [go_sem, ptake, t64]
      refine .inl (call_bare [2] (row_pc Γ (M5.reps m i) (M5.reps m i) (by omega) (by omega)) (.bool _) (fun H' hH' => frzL_c ((frz_data _ _ _ _).2 rfl) (frzL_c (frz_ref (rw := true) (cells := (bys (M5.reps m i)).map D.data) (by rw [hH' 2 (by simp)]; simp [go_sem]) (.inl rfl) (by rw [bys_length, hrl]) (bys_cells _) (by rw [flat_bys])) frzL_n)) ?_)
      simp -implicitDefEqProofs (disch := omega) [go_sem, ptake, t64]
      refine loop_ren (σ := { j : Nat // i ≤ j ∧ 64 * j ≤ p.length }) (fun j => ⟨envL [(2, .data (.sl 1 (bys b))), (7, .data (.bool true)), (8, .data (.int .i64 i)), (9, .ref 2 0 (64 * i) 1), (10, .ptr 1 0), (12, .data (.sl 1 (bys p))), (13, .data (.int .i64 (64 * j.1 : Nat)))], hpL [(1, .blk true ((sw (M5.blocks M5.first p j.1)).map .data)), (2, .blk true ((bys (M5.reps m i)).map .data))], 3, 0, 102⟩) (fun j => p.length - 64 * j.1) ⟨i, by omega, by omega⟩ [] (rhoL []) ?_ ?_
      · apply ren_lists <;> simp -implicitDefEqProofs [go_sem, pfin]
      · rintro ⟨j, hj⟩
        by_cases hj2 : 64 * (j + 1) ≤ p.length
        · have t1 : (64 * (j : Int) + 64).toNat = 64 * j + 64 := by omega
          have t2 : (64 * (j : Int)).toNat = 64 * j := by omega
          have hdt : List.drop (64 * j) (List.take (64 * j + 64) p) = (p.drop (64 * j)).take 64 := by rw [List.drop_take]; congr 1; omega
          simp -implicitDefEqProofs (disch := omega) [go_sem, t1, t2, hdt]
          refine call_data (block_pc Γ hΓ _ (M5.blocks_ok M5.first_ok p j) ((p.drop (64 * j)).take 64) (by simp; omega) (fun x hx => hpb x (List.mem_of_mem_drop (List.mem_of_mem_take hx)))) (by simp [go_sem, stD]) ?_
          simp -implicitDefEqProofs (disch := omega) [go_sem, stD]
          refine side (by kernel_rfl) ?_
          simp -implicitDefEqProofs (disch := omega) [go_sem]
          refine next_of ⟨j + 1, by omega⟩ ?_ (by simp only; omega)
          apply weak_lists <;> simp -implicitDefEqProofs [go_sem, M5.blocks]
          all_goals omega
        · have hfin := hfinal j (by omega)
          have hok := M5.final_ok (M5.reps m i ++ b)
          have hsl := M5.sum_length (M5.reps m i ++ b)
          have hst : List.take 16 (M5.sum (M5.reps m i ++ b)) = M5.sum (M5.reps m i ++ b) := List.take_of_length_le (by omega)
          have s0 := M5.sum_at (M5.reps m i ++ b) 0 (by omega)
          have s1 := M5.sum_at (M5.reps m i ++ b) 1 (by omega)
          have s2 := M5.sum_at (M5.reps m i ++ b) 2 (by omega)
          have s3 := M5.sum_at (M5.reps m i ++ b) 3 (by omega)
          have o0 := M5.outb_lt (M5.final (M5.reps m i ++ b)) 0
          have o1 := M5.outb_lt (M5.final (M5.reps m i ++ b)) 1
          have o2 := M5.outb_lt (M5.final (M5.reps m i ++ b)) 2
          have o3 := M5.outb_lt (M5.final (M5.reps m i ++ b)) 3
          have hw := M5.outb_word hok 0
          have hat := M5.at_lt4 hok 0
          simp -implicitDefEqProofs (disch := omega) [go_sem, hfin, htr]
          refine .inl (call_read (rw := true) _ _ (M5.reps m i ++ b) hsum (bare_bys _) (by simp [go_sem]) hll ?_)
          simp -implicitDefEqProofs (disch := first | omega | (simp only [List.length_cons, List.length_nil, List.length_map, bys_length, hsl]; first | done | omega)) [go_sem, over_map _ (bys (M5.sum (M5.reps m i ++ b))), hst, s0, s1, s2, s3, -getElem?_pos]
          have ha : (M5.final (M5.reps m i ++ b)).at 0 = (M5.final (M5.reps m i ++ b)).a := rfl
          rw [ha] at hw hat
          simp only [Nat.mul_zero, Nat.zero_add] at hw
          rw [hfin, IntKind.wrap_i64]
          omega
theorem law_Md5More (Γ : Nat → Option (List Data)) (hΓ : Tabs Γ) {x0 x1 x2 : Data} (a0 : argD Tryd.prog 8 25 x0) (a1 : argD Tryd.prog 8 5 x1) (a2 : argD Tryd.prog 8 22 x2) : PC Tryd.prog Γ 6 [x0, x1, x2] (.bool true) := by
  obtain ⟨m, hm, bm, rfl⟩ := arg_abytes Tryd.underlying25 Tryd.underlying5 a0
  obtain ⟨n, hn, rfl⟩ := arg_u8 Tryd.underlying5 a1
  obtain ⟨b, hb, lb, rfl⟩ := arg_bytes Tryd.underlying22 Tryd.underlying5 (by kernel_rfl) a2
  exact more_pc Γ hΓ m hm bm n hn b lb hb
end Go.Proofs.YtlfmgellojjndaaDoor
