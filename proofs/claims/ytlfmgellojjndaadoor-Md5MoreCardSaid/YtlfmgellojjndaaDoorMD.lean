import Derived.Test.YtlfmgellojjndaaDoorMC
namespace Go.Proofs.YtlfmgellojjndaaDoor
open Go.RowKit
set_option linter.unusedVariables false
set_option linter.unusedSimpArgs false
theorem bare_stD (s : M5.St) : Bare (stD s) := .agg _ fun x hx => by
  simp [sw] at hx
  rcases hx with rfl | rfl | rfl | rfl <;> exact .int _ _
def bk (s t : M5.St) (i : Nat) : List Data := (List.range 4).map fun j => if j < i then u32 ((s.at j + t.at j) % 4294967296) else u32 (s.at j)
theorem at_sw (s : M5.St) (j : Nat) (h : j < 4) : (sw s)[j]? = some (.int .u32 (s.at j : Nat)) := by
  match j, h with
  | 0, _ | 1, _ | 2, _ | 3, _ => rfl
theorem bk_at (s t : M5.St) (i : Nat) (h : i < 4) : (bk s t i)[i]? = some (.int .u32 (s.at i : Nat)) := by simp [bk, h, u32]
theorem bk_set (s t : M5.St) (i : Nat) (h : i < 4) : ((bk s t i).map D.data).set i (.data (.int .u32 (((s.at i : Nat) + (t.at i : Nat) : Int) % 4294967296))) = (bk s t (i + 1)).map D.data := by
  have e : (((s.at i : Nat) + (t.at i : Nat) : Int) % 4294967296) = (((s.at i + t.at i) % 4294967296 : Nat) : Int) := by omega
  rw [e]
  match i, h with
  | 0, _ | 1, _ | 2, _ | 3, _ => rfl
@[go_sem] theorem bk_length (s t : M5.St) (i : Nat) : (bk s t i).length = 4 := by simp [bk]
theorem bk_zero (s t : M5.St) : bk s t 0 = sw s := rfl
theorem bk_four (s t : M5.St) : bk s t 4 = sw ⟨(s.a + t.a) % 4294967296, (s.b + t.b) % 4294967296, (s.c + t.c) % 4294967296, (s.d + t.d) % 4294967296⟩ := rfl
theorem bk_end (l : List Nat) (s : M5.St) : bk s (M5.rounds l s 64) 4 = sw (M5.block s l) := by
  rw [bk_four]
  unfold M5.block
  rfl
set_option maxRecDepth 100000 in
theorem block_pc (Γ : Nat → Option (List Data)) (hΓ : Tabs Γ) (s : M5.St) (hs : s.ok) (l : List Nat) (hl : l.length = 64) (hb : ∀ x ∈ l, x < 256) : PC Tryd.prog Γ 14 [stD s, .sl 1 (bys l)] (stD (M5.block s l)) := by
  refine pc_by mixed Tryd.func14 rfl (fun args w => Tryd.call14 args w) ?_
  simp -implicitDefEqProofs (disch := omega) [go_sem, Tryd.f14, stD, hl]
  refine .inl (call_data (wordsOf_pc Γ l hl hb) (by simp [go_sem]) ?_)
  simp -implicitDefEqProofs (disch := omega) [go_sem, stD, hl]
  refine .inr (dc_by mixed Tryd.func18 rfl (fun args w => Tryd.call18 args w) ?_)
  simp -implicitDefEqProofs (disch := omega) [go_sem, stD, hl, Tryd.f18, all_cells (ws_cell l 64)]
  have hfn : ∀ i : Nat, i < 64 → ∃ f, [D.fn 24 [.ptr 10 0], .fn 26 [.ptr 10 0], .fn 27 [.ptr 10 0], .fn 28 [.ptr 10 0]][((i : Int) / 16).toNat]? = some (.fn f [.ptr 10 0]) ∧ PC Tryd.prog Γ f [stD (M5.rounds l s i), .int .i64 i, .pc (ws l 64)] (stD (M5.rounds l s (i + 1))) := by
    intro i hi
    have hr := M5.rounds_ok (m := l) hs i
    by_cases h1 : i < 16
    · have e : ((i : Int) / 16).toNat = 0 := by omega
      rw [e]; exact ⟨_, rfl, do1_pc Γ hΓ _ hr l hl hb i h1⟩
    · by_cases h2 : i < 32
      · have e : ((i : Int) / 16).toNat = 1 := by omega
        rw [e]; exact ⟨_, rfl, do2_pc Γ hΓ _ hr l hl hb i (by omega) h2⟩
      · by_cases h3 : i < 48
        · have e : ((i : Int) / 16).toNat = 2 := by omega
          rw [e]; exact ⟨_, rfl, do3_pc Γ hΓ _ hr l hl hb i (by omega) h3⟩
        · have e : ((i : Int) / 16).toNat = 3 := by omega
          rw [e]; exact ⟨_, rfl, do4_pc Γ hΓ _ hr l hl hb i (by omega) hi⟩
  refine loop_of (σ := { i : Nat // i ≤ 64 }) (fun i => ⟨envL [(2, .ptr 0 0), (4, .ptr 1 0), (5, .ptr 6 0), (6, .ptr 18 0), (17, .data (.int .i64 i.1))], hpL [(0, .blk true ((sw s).map .data)), (1, .blk true (List.replicate 4 (.data (u32 0)))), (6, .blk true ((sw (M5.rounds l s i.1)).map .data)), (10, .blk true ((ws l 64).map .data)),
    (18, .blk true [D.fn 24 [.ptr 10 0], .fn 26 [.ptr 10 0], .fn 27 [.ptr 10 0], .fn 28 [.ptr 10 0]])], 21, 0, 41⟩) (fun i => 64 - i.1) ⟨0, by omega⟩ ?_ ?_
  · apply weak_lists <;> simp [go_sem, List.replicate, u32, M5.rounds]
  · rintro ⟨i, hi⟩
    simp -implicitDefEqProofs (disch := omega) [go_sem]
    refine ifW_dec (fun h => ?_) (fun h => ?_)
    · have h64 : i < 64 := by omega
      obtain ⟨f, hf, hpc⟩ := hfn i h64
      simp -implicitDefEqProofs (disch := omega) [go_sem, hf]
      refine call_bare [10] hpc (bare_stD _) (fun H' hH' => ?_) ?_
      · have := hH' 10 (by simp)
        simp [go_sem] at this
        exact frzL_c (.data _) (frzL_c (.data _) (frzL_c (frz_ptr this (.inl rfl)) frzL_n))
      simp -implicitDefEqProofs (disch := omega) [go_sem, stD]
      refine side (by kernel_rfl) ?_
      simp -implicitDefEqProofs (disch := omega) [go_sem]
      refine next_of ⟨i + 1, by omega⟩ ?_ (by simp only; omega)
      apply weak_lists <;> simp -implicitDefEqProofs [go_sem]
    · have : i = 64 := by omega
      subst this
      simp -implicitDefEqProofs (disch := omega) [go_sem]
      refine loop_of (σ := { i : Nat // i ≤ 4 }) (fun i => ⟨envL [(2, .ptr 0 0), (4, .ptr 1 0), (5, .ptr 6 0), (28, .data (.int .i64 i.1))], hpL [(0, .blk true ((bk s (M5.rounds l s 64) i.1).map .data)), (1, .blk true (List.replicate 4 (.data (u32 0)))), (6, .blk true ((sw (M5.rounds l s 64)).map .data))], 21, 0, 41⟩) (fun i => 4 - i.1) ⟨0, by omega⟩ ?_ ?_
      · apply weak_lists <;> simp -implicitDefEqProofs [go_sem, List.replicate, u32, bk_zero]
      · rintro ⟨i, hi⟩
        simp -implicitDefEqProofs (disch := omega) [go_sem]
        refine ifW_dec (fun h => ?_) (fun h => ?_)
        · have h4 : i < 4 := by omega
          simp -implicitDefEqProofs (disch := omega) [go_sem, bk_at s _ i h4, at_sw _ i h4]
          refine side (by kernel_rfl) ?_
          simp -implicitDefEqProofs (disch := omega) [go_sem]
          refine next_of ⟨i + 1, by omega⟩ ?_ (by simp only; omega)
          apply weak_lists <;> simp -implicitDefEqProofs [go_sem, bk_set s _ i h4]
        · have : i = 4 := by omega
          subst this
          simp -implicitDefEqProofs (disch := omega) [go_sem, bk_end, stD, Tryd.f14]
end Go.Proofs.YtlfmgellojjndaaDoor
