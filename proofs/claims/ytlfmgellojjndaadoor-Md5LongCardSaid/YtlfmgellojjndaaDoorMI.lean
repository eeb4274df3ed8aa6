import Derived.Test.YtlfmgellojjndaaDoorMH
namespace Go.Proofs.YtlfmgellojjndaaDoor
open Go.RowKit
set_option linter.unusedVariables false
set_option linter.unusedSimpArgs false
theorem at_lt {s : M5.St} (hs : s.ok) (j : Nat) : s.at j < 4294967296 := M5.at_lt4 hs j
theorem sum_take (l : List Nat) (i : Nat) (h : i < 16) : (M5.sum l).take i ++ [M5.outb (M5.final l) i] = (M5.sum l).take (i + 1) := by
  rw [List.take_add_one, M5.sum_at l i h]
  rfl
def os (l : List Nat) (i : Nat) : List Nat := (M5.sum l).take i ++ List.replicate (16 - i) 0
theorem os_zero (l : List Nat) : os l 0 = List.replicate 16 0 := by simp [os]
theorem os_end (l : List Nat) : os l 16 = M5.sum l := by
  unfold os
  rw [List.take_of_length_le (by simp [M5.sum_length])]
  simp
@[go_sem] theorem os_length (l : List Nat) (i : Nat) (h : i ≤ 16) : (os l i).length = 16 := by simp [os, M5.sum_length]; omega
theorem os_set (l : List Nat) (i : Nat) (h : i < 16) : (os l i).set i (M5.outb (M5.final l) i) = os l (i + 1) := by
  unfold os
  have e : 16 - i = (16 - (i + 1)) + 1 := by omega
  have hl : ((M5.sum l).take i).length = i := by simp [M5.sum_length]; omega
  rw [← sum_take l i h, e, List.replicate_succ, List.set_append_right _ _ (by omega), hl, Nat.sub_self]
  simp
/-- What is left of a word. -/
def dv (s : M5.St) (i j : Nat) : Nat := s.at (i / 4) / 256 ^ j
theorem dv_zero (s : M5.St) (i : Nat) : dv s i 0 = s.at (i / 4) := by simp [dv]
theorem dv_succ (s : M5.St) (i j : Nat) : dv s i (j + 1) = dv s i j / 256 := by unfold dv; rw [Nat.pow_succ, Nat.div_div_eq_div_mul]
theorem dv_lt {s : M5.St} (hs : s.ok) (i j : Nat) : dv s i j < 4294967296 := Nat.lt_of_le_of_lt (Nat.div_le_self _ _) (at_lt hs _)
theorem dv_out (s : M5.St) (i : Nat) : dv s i (i % 4) % 256 = M5.outb s i := rfl
set_option maxRecDepth 100000 in
theorem rsum_pc (Γ : Nat → Option (List Data)) (l : List Nat) (hl : l.length ≤ 100000000000) (hb : ∀ x ∈ l, x < 256) : PC Tryd.prog Γ 10 [.sl 1 (bys l)] (.agg (bys (M5.sum l))) := by
  refine pc_by mixed Tryd.func10 rfl (fun args w => Tryd.call10 args w) ?_
  simp -implicitDefEqProofs (disch := omega) [go_sem, Tryd.f10]
  refine .inl (call_data (rpad_pc Γ l hl) (by simp [go_sem]) ?_)
  simp -implicitDefEqProofs (disch := omega) [go_sem]
  have hm := M5.pad_mod l
  have hpb := M5.pad_lt hb
  have hlen := M5.pad_length l
  have hz := M5.pz_lt l.length
  generalize hp : M5.pad l = p at hm hpb hlen
  refine loop_of (σ := { i : Nat // 64 * i ≤ p.length }) (fun i => ⟨envL [(2, .ptr 0 0), (3, .ptr 2 0), (4, .data (.sl 1 (bys p))), (5, .data (.int .i64 (64 * i.1 : Nat)))], hpL [(0, .blk true [D.data (.int .u8 0), .data (.int .u8 0), .data (.int .u8 0), .data (.int .u8 0), .data (.int .u8 0), .data (.int .u8 0), .data (.int .u8 0), .data (.int .u8 0), .data (.int .u8 0), .data (.int .u8 0), .data (.int .u8 0), .data (.int .u8 0), .data (.int .u8 0), .data (.int .u8 0), .data (.int .u8 0), .data (.int .u8 0)]), (2, .blk true ((sw (M5.blocks M5.first p i.1)).map .data))], 3, 0, 49⟩) (fun i => p.length - 64 * i.1) ⟨0, by omega⟩ ?_ ?_
  · apply weak_lists <;> simp -implicitDefEqProofs [go_sem, sw, u32, M5.blocks, M5.first, hp]
  · rintro ⟨i, hi⟩
    simp -implicitDefEqProofs (disch := omega) [go_sem]
    refine ifW_dec (fun h => ?_) (fun h => ?_)
    · have h64 : 64 * (i + 1) ≤ p.length := by omega
      have t1 : (64 * (i : Int) + 64).toNat = 64 * i + 64 := by omega
      have t2 : (64 * (i : Int)).toNat = 64 * i := by omega
      have hdt : List.drop (64 * i) (List.take (64 * i + 64) p) = (p.drop (64 * i)).take 64 := by rw [List.drop_take]; congr 1; omega
      simp -implicitDefEqProofs (disch := omega) [go_sem, t1, t2, hdt]
      refine call_data (rblock_pc Γ _ (M5.blocks_ok M5.first_ok p i) ((p.drop (64 * i)).take 64) (by simp; omega) (fun x hx => hpb x (List.mem_of_mem_drop (List.mem_of_mem_take hx)))) (by simp [go_sem, stD]) ?_
      simp -implicitDefEqProofs (disch := omega) [go_sem, stD]
      refine side (by kernel_rfl) ?_
      simp -implicitDefEqProofs (disch := omega) [go_sem]
      refine next_of ⟨i + 1, by omega⟩ ?_ (by simp only; omega)
      apply weak_lists <;> simp -implicitDefEqProofs [go_sem, M5.blocks]
      all_goals omega
    · have hi' : i = p.length / 64 := by omega
      have hfin : M5.blocks M5.first p i = M5.final l := by unfold M5.final; rw [hp, hi']
      have hok := M5.final_ok l
      simp -implicitDefEqProofs (disch := omega) [go_sem, hfin]
      refine loop_of (σ := { i : Nat // i ≤ 16 }) (fun i => ⟨envL [(2, .ptr 0 0), (3, .ptr 2 0), (6, .ptr 8 0), (7, .data (.int .i64 i.1))], hpL [(0, .blk true [D.data (.int .u8 0), .data (.int .u8 0), .data (.int .u8 0), .data (.int .u8 0), .data (.int .u8 0), .data (.int .u8 0), .data (.int .u8 0), .data (.int .u8 0), .data (.int .u8 0), .data (.int .u8 0), .data (.int .u8 0), .data (.int .u8 0), .data (.int .u8 0), .data (.int .u8 0), .data (.int .u8 0), .data (.int .u8 0)]), (2, .blk true ((sw (M5.final l)).map .data)), (8, .blk true ((bys (os l i.1)).map .data))], 9, 0, 49⟩) (fun i => 16 - i.1) ⟨0, by omega⟩ ?_ ?_
      · apply weak_lists <;> simp -implicitDefEqProofs [go_sem, os_zero, bys, u8, List.replicate]
      · rintro ⟨i, hi⟩
        simp -implicitDefEqProofs (disch := omega) [go_sem]
        refine ifW_dec (fun h => ?_) (fun h => ?_)
        · have h16 : i < 16 := by omega
          simp -implicitDefEqProofs (disch := omega) [go_sem, sw_at _ i h16]
          refine loop_of (σ := { j : Nat // j ≤ i % 4 }) (fun j => ⟨envL [(2, .ptr 0 0), (3, .ptr 2 0), (6, .ptr 8 0), (7, .data (.int .i64 i)), (8, .data (.int .u32 (dv (M5.final l) i j.1 : Nat))), (9, .data (.int .i64 j.1))], hpL [(0, .blk true [D.data (.int .u8 0), .data (.int .u8 0), .data (.int .u8 0), .data (.int .u8 0), .data (.int .u8 0), .data (.int .u8 0), .data (.int .u8 0), .data (.int .u8 0), .data (.int .u8 0), .data (.int .u8 0), .data (.int .u8 0), .data (.int .u8 0), .data (.int .u8 0), .data (.int .u8 0), .data (.int .u8 0), .data (.int .u8 0)]), (2, .blk true ((sw (M5.final l)).map .data)), (8, .blk true ((bys (os l i)).map .data))], 9, 0, 49⟩) (fun j => i % 4 - j.1) ⟨0, by omega⟩ ?_ ?_
          · apply weak_lists <;> simp -implicitDefEqProofs [go_sem, dv_zero]
          · rintro ⟨j, hj⟩
            have hdl := dv_lt hok i j
            simp -implicitDefEqProofs (disch := omega) [go_sem]
            refine ifW_dec (fun h2 => ?_) (fun h2 => ?_)
            · simp -implicitDefEqProofs (disch := omega) [go_sem]
              refine next_of ⟨j + 1, by omega⟩ ?_ (by simp only; omega)
              apply weak_lists <;> simp -implicitDefEqProofs [go_sem, dv_succ]
              all_goals omega
            · have hj' : j = i % 4 := by omega
              subst hj'
              have hv : (dv (M5.final l) i (i % 4) : Int) % 256 = (M5.outb (M5.final l) i : Nat) := by rw [← dv_out]; omega
              have hol := os_length l i (by omega)
              have hset := bys_set (os l i) i _ _ hv
              rw [os_set l i h16] at hset
              simp -implicitDefEqProofs (disch := omega) [go_sem]
              refine next_of ⟨i + 1, by omega⟩ ?_ (by simp only; omega)
              apply weak_lists <;> simp -implicitDefEqProofs [go_sem]
              all_goals (first | exact hset | skip)
        · have : i = 16 := by omega
          subst this
          have hst : List.take 16 (M5.sum l) = M5.sum l := List.take_of_length_le (by simp [M5.sum_length])
          simp -implicitDefEqProofs (disch := first | omega | (simp only [List.length_cons, List.length_nil, List.length_map, bys_length, M5.sum_length]; first | done | omega)) [go_sem, os_end, over_map _ (bys (M5.sum l)), hst, Tryd.f10]
end Go.Proofs.YtlfmgellojjndaaDoor
