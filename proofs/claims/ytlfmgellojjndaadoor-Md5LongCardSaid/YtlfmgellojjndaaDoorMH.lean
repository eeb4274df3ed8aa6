import Derived.Test.YtlfmgellojjndaaDoorMG
namespace Go.Proofs.YtlfmgellojjndaaDoor
open Go.RowKit
set_option linter.unusedVariables false
set_option linter.unusedSimpArgs false
def rp (l : List Nat) (i : Nat) : List Nat := l ++ ([128] ++ (List.replicate (M5.pz l.length) 0 ++ (M5.le8 (8 * l.length)).take i))
theorem rp_length (l : List Nat) (i : Nat) (h : i ≤ 8) : (rp l i).length = l.length + 1 + M5.pz l.length + i := by
  simp [rp, M5.le8_length]; omega
theorem rp_end (l : List Nat) : rp l 8 = M5.pad l := by simp [rp, M5.pad, M5.le8]
theorem rp_zero (l : List Nat) : l ++ ([128] ++ List.replicate (M5.pz l.length) 0) = rp l 0 := by simp [rp]
/-- What is left of the count of bits. -/
def qv (l : List Nat) (i : Nat) : Nat := 8 * l.length / 256 ^ i
theorem qv_zero (l : List Nat) : qv l 0 = 8 * l.length := by simp [qv]
theorem qv_succ (l : List Nat) (i : Nat) : qv l (i + 1) = qv l i / 256 := by unfold qv; rw [Nat.pow_succ, Nat.div_div_eq_div_mul]
theorem qv_le (l : List Nat) (i : Nat) : qv l i ≤ 8 * l.length := Nat.div_le_self _ _
theorem rp_succ (l : List Nat) (i : Nat) (h : i < 8) : rp l i ++ [qv l i % 256] = rp l (i + 1) := by
  unfold qv
  unfold rp
  have : (M5.le8 (8 * l.length)).take (i + 1) = (M5.le8 (8 * l.length)).take i ++ [(8 * l.length) / 256 ^ i % 256] := by
    generalize 8 * l.length = n
    match i, h with
    | 0, _ | 1, _ | 2, _ | 3, _ | 4, _ | 5, _ | 6, _ | 7, _ => simp [M5.le8]
  rw [this]
  simp
@[go_sem] theorem bysd_one (n : Nat) : [D.data (.int .u8 (n : Nat))] = (bys [n]).map D.data := rfl
theorem rp0 (l : List Nat) : (bys l).map D.data ++ D.data (.int .u8 128) :: (bys (List.replicate (M5.pz l.length) 0)).map D.data = (bys (rp l 0)).map D.data := by simp [rp, bys, u8]
set_option maxHeartbeats 1000000 in
set_option maxRecDepth 100000 in
theorem rpad_pc (Γ : Nat → Option (List Data)) (l : List Nat) (hl : l.length ≤ 100000000000) : PC Tryd.prog Γ 13 [.sl 1 (bys l)] (.sl 1 (bys (M5.pad l))) := by
  have hz := M5.pz_lt l.length
  have hpz : (119 - (l.length : Int) % 64) % 64 = (M5.pz l.length : Nat) := by unfold M5.pz; omega
  have h1 : (l.length : Int) % 18446744073709551616 = l.length := by omega
  have h2 : 8 * (l.length : Int) % 18446744073709551616 = 8 * l.length := by omega
  refine pc_by mixed Tryd.func13 rfl (fun args w => Tryd.call13 args w) ?_
  simp -implicitDefEqProofs (disch := omega) [go_sem, Tryd.f13, hpz, h1, h2]
  refine loop_of (σ := { p : Nat × Nat × Nat // p.1 ≤ 8 ∧ p.2.1 < p.2.2 }) (fun p => ⟨envL [(3, .ref p.1.2.1 0 (l.length + 1 + M5.pz l.length + p.1.1) 1), (5, .data (.int .u64 (qv l p.1.1 : Nat))), (6, .data (.int .i64 p.1.1))], hpL [(p.1.2.1, .blk true ((bys (rp l p.1.1)).map .data))], p.1.2.2, 0, 38⟩) (fun p => 8 - p.1.1) ⟨(0, 17, 18), by omega, by decide⟩ ?_ ?_
  · apply weak_lists <;> simp -implicitDefEqProofs [go_sem, rp0, qv_zero]
  · rintro ⟨⟨i, g, nx⟩, hi, hg⟩
    simp only at hi hg
    simp -implicitDefEqProofs (disch := omega) [go_sem]
    refine ifW_dec (fun h => ?_) (fun h => ?_)
    · have h8 : i < 8 := by omega
      have hrl := rp_length l i (by omega)
      have hq := qv_le l i
      have hm : (qv l i : Int) % 256 % 256 = ((qv l i % 256 : Nat) : Int) := by omega
      have hap : (bys (rp l i)).map D.data ++ [D.data (.int .u8 ((qv l i : Int) % 256))] = (bys (rp l (i + 1))).map D.data := by
        rw [← rp_succ l i h8]
        simp [bys, u8]
      have hq2 : (qv l i : Int) / 256 % 18446744073709551616 = (qv l (i + 1) : Nat) := by rw [qv_succ]; omega
      simp -implicitDefEqProofs (disch := omega) [go_sem, ne_lt, ne_gt]
      refine next_of ⟨(i + 1, nx + 1 + 1 + 1 + 1 + 1 + 1 + 1, nx + 1 + 1 + 1 + 1 + 1 + 1 + 1 + 1), by simp only; omega, by simp only; omega⟩ ?_ (by simp only; omega)
      apply weak_lists
      · simp -implicitDefEqProofs [go_sem]
        exact ⟨by omega, hq2⟩
      · simp -implicitDefEqProofs [go_sem]
        exact hap
      all_goals simp -implicitDefEqProofs [go_sem]
      all_goals omega
    · have : i = 8 := by omega
      subst this
      have hrl := rp_length l 8 (by omega)
      simp -implicitDefEqProofs (disch := omega) [go_sem, rp_end, Tryd.f13]
      exact ⟨_, ⟨_, rfl, frz_ref (l := bys (M5.pad l)) (rw := true) (cells := (bys (M5.pad l)).map D.data) (by simp [go_sem]) (.inl rfl) (by rw [bys_length, ← rp_end]; omega) (bys_cells _) (by rw [flat_bys])⟩, rfl⟩
end Go.Proofs.YtlfmgellojjndaaDoor
