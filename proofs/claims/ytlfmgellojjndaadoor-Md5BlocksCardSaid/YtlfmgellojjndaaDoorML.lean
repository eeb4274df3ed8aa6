import Derived.Test.YtlfmgellojjndaaDoorMK
namespace Go.Proofs.YtlfmgellojjndaaDoor
open Go.RowKit
set_option linter.unusedVariables false
set_option linter.unusedSimpArgs false
set_option maxHeartbeats 1000000 in
set_option maxRecDepth 100000 in
theorem blocks_pc (Γ : Nat → Option (List Data)) (hΓ : Tabs Γ) (l : List Nat) (hl : l.length ≤ 140737488351232) (hb : ∀ x ∈ l, x < 256) : PC Tryd.prog Γ 4 [.sl 1 (bys l)] (.bool true) := by
  refine pc_by mixed Tryd.func4 rfl (fun args w => Tryd.call4 args w) ?_
  simp -implicitDefEqProofs (disch := omega) [go_sem, Tryd.f4]
  refine .inl (call_data (shown_pc Γ hΓ) (by simp [go_sem]) ?_)
  simp -implicitDefEqProofs (disch := omega) [go_sem]
  refine ifW_dec (fun h => ?_) (fun h => ?_)
  · simp -implicitDefEqProofs (disch := omega) [go_sem, Tryd.f4]
  · have hl' : l.length ≤ 1000 := by omega
    simp -implicitDefEqProofs (disch := omega) [go_sem]
    refine .inl (call_data (pad_pc Γ l (by omega)) (by simp [go_sem]) ?_)
    have hm := M5.pad_mod l
    have hpb := M5.pad_lt hb
    have hlen := M5.pad_length l
    have hz := M5.pz_lt l.length
    have hsum := sum_pc Γ hΓ l (by omega) hb
    have hfinal : ∀ i, i = (M5.pad l).length / 64 → M5.blocks M5.first (M5.pad l) i = M5.final l := fun i e => by rw [e]; rfl
    generalize M5.pad l = p at *
    have x1 : ((p.length : Nat) : Int) % 64 = 0 := by omega
    simp -implicitDefEqProofs (disch := omega) [go_sem, x1]
    refine loop_of (σ := { i : Nat // 64 * i ≤ p.length }) (fun i => ⟨envL [(0, .data (.sl 1 (bys l))), (3, .data (.bool true)), (4, .data (.sl 1 (bys p))), (5, .ptr 14 0), (6, .data (.int .i64 (64 * i.1 : Nat)))], hpL [(14, .blk true ((sw (M5.blocks M5.first p i.1)).map .data))], 15, 0, 77⟩) (fun i => p.length - 64 * i.1) ⟨0, by omega⟩ ?_ ?_
    · apply weak_lists <;> simp -implicitDefEqProofs [go_sem, sw, u32, M5.blocks, M5.first]
    · rintro ⟨i, hi⟩
      simp -implicitDefEqProofs (disch := omega) [go_sem]
      refine ifW_dec (fun h => ?_) (fun h => ?_)
      · have h64 : 64 * (i + 1) ≤ p.length := by omega
        have t1 : (64 * (i : Int) + 64).toNat = 64 * i + 64 := by omega
        have t2 : (64 * (i : Int)).toNat = 64 * i := by omega
        have hdt : List.drop (64 * i) (List.take (64 * i + 64) p) = (p.drop (64 * i)).take 64 := by rw [List.drop_take]; congr 1; omega
        simp -implicitDefEqProofs (disch := omega) [go_sem, t1, t2, hdt]
        refine call_data (block_pc Γ hΓ _ (M5.blocks_ok M5.first_ok p i) ((p.drop (64 * i)).take 64) (by simp; omega) (fun x hx => hpb x (List.mem_of_mem_drop (List.mem_of_mem_take hx)))) (by simp [go_sem, stD]) ?_
        simp -implicitDefEqProofs (disch := omega) [go_sem, stD]
        refine side (by kernel_rfl) ?_
        simp -implicitDefEqProofs (disch := omega) [go_sem]
        refine next_of ⟨i + 1, by omega⟩ ?_ (by simp only; omega)
        apply weak_lists <;> simp -implicitDefEqProofs [go_sem, M5.blocks]
        all_goals omega
      · have hfin := hfinal i (by omega)
        have hok := M5.final_ok l
        have hsl := M5.sum_length l
        have hst : List.take 16 (M5.sum l) = M5.sum l := List.take_of_length_le (by omega)
        simp -implicitDefEqProofs (disch := omega) [go_sem, hfin]
        refine .inl (call_data hsum (by simp [go_sem]) ?_)
        simp -implicitDefEqProofs (disch := first | omega | (simp only [List.length_cons, List.length_nil, List.length_map, bys_length, hsl]; first | done | omega)) [go_sem, over_map _ (bys (M5.sum l)), hst]
        refine loop_of (σ := { i : Nat // i ≤ 4 }) (fun i => ⟨envL [(3, .data (.bool true)), (5, .ptr 14 0), (7, .ptr 22 0), (8, .data (.int .i64 i.1))], hpL [(14, .blk true ((sw (M5.final l)).map .data)), (22, .blk true ((bys (M5.sum l)).map .data))], 23, 0, 77⟩) (fun i => 4 - i.1) ⟨0, by omega⟩ ?_ ?_
        · apply weak_lists <;> simp -implicitDefEqProofs [go_sem, hfin]
        · rintro ⟨i, hi⟩
          simp -implicitDefEqProofs (disch := omega) [go_sem]
          refine ifW_dec (fun h => ?_) (fun h => ?_)
          · have h4 : i < 4 := by omega
            have g0 : (4 * (i : Int)).toNat = 4 * i := by omega
            have g1 : (4 * (i : Int) + 1).toNat = 4 * i + 1 := by omega
            have g2 : (4 * (i : Int) + 2).toNat = 4 * i + 2 := by omega
            have g3 : (4 * (i : Int) + 3).toNat = 4 * i + 3 := by omega
            have s0 := M5.sum_at l (4 * i) (by omega)
            have s1 := M5.sum_at l (4 * i + 1) (by omega)
            have s2 := M5.sum_at l (4 * i + 2) (by omega)
            have s3 := M5.sum_at l (4 * i + 3) (by omega)
            have o0 := M5.outb_lt (M5.final l) (4 * i)
            have o1 := M5.outb_lt (M5.final l) (4 * i + 1)
            have o2 := M5.outb_lt (M5.final l) (4 * i + 2)
            have o3 := M5.outb_lt (M5.final l) (4 * i + 3)
            have hw := M5.outb_word hok i
            simp -implicitDefEqProofs (disch := omega) [go_sem, g0, g1, g2, g3, s0, s1, s2, s3, -getElem?_pos]
            refine side (by kernel_rfl) ?_
            simp -implicitDefEqProofs (disch := omega) [go_sem, at_sw _ i h4]
            have hat := M5.at_lt4 hok i
            refine ifW_ndec (fun h2 => absurd (by omega) h2) (fun h2 => ?_)
            simp -implicitDefEqProofs (disch := omega) [go_sem]
            refine next_of ⟨i + 1, by omega⟩ ?_ (by simp only; omega)
            apply weak_lists <;> simp -implicitDefEqProofs [go_sem]
          · simp -implicitDefEqProofs (disch := omega) [go_sem, Tryd.f4]
theorem law_Md5Blocks (Γ : Nat → Option (List Data)) (hΓ : Tabs Γ) {x0 : Data} (a0 : argD Tryd.prog 8 22 x0) : PC Tryd.prog Γ 4 [x0] (.bool true) := by
  obtain ⟨l, hb, hl, rfl⟩ := arg_bytes Tryd.underlying22 Tryd.underlying5 (by kernel_rfl) a0
  exact blocks_pc Γ hΓ l hl hb
end Go.Proofs.YtlfmgellojjndaaDoor
