/- Disks: DiskCrashes. -/
import Derived.Test.YtlfmgellojjndaaDK
namespace Go.Proofs.Ytlfmgellojjndaa
open Go.RowKit
set_option linter.unusedVariables false
set_option linter.unusedSimpArgs false
theorem kept_all (n : Nat) : ∀ (w : List Wr) (i : Nat), i + w.length ≤ n → kept (List.replicate n true) i w = w
  | [], _, _ => rfl
  | p :: w, i, h => by
    simp only [List.length_cons] at h
    have hk : keepAt (List.replicate n true) i = true := by
      unfold keepAt
      rw [List.getD_eq_getElem?_getD, List.getElem?_replicate, if_pos (by omega)]
      rfl
    simp only [kept, hk, if_true, kept_all n w (i + 1) (by omega)]
def dBool : List D := [.data (.bool false)]
set_option maxHeartbeats 4000000 in
set_option maxRecDepth 100000 in
theorem crashes_pc (Γ : Nat → Option (List Data)) (s : List (List Nat)) (w : List Wr) (d : Din s w) (a : Int) (k : List Bool) (hkl : k.length ≤ 140737488351232) :
    PC Try.prog Γ 4 [dk s w, .int .i64 a, .sl 1 (bools k)] (.bool true) := by
  refine pc_by mixed Try.func4 rfl (fun args w => Try.call4 args w) ?_
  have hsm := rsmall_pc Γ s w d.sn d.wn
  have hrt := rright_pc Γ s w d.sn d.wn
  simp -implicitDefEqProofs (disch := omega) [go_sem, dk]
  refine .inl (call_data (shown_pc Γ) (by simp [go_sem]) ?_)
  simp -implicitDefEqProofs (disch := omega) [go_sem]
  refine .inl (call_data hsm (by simp [go_sem, dk]) ?_)
  by_cases h1 : Sm s w
  · simp -implicitDefEqProofs (disch := omega) [go_sem, h1]
    refine .inl (call_data hrt (by simp [go_sem, dk]) ?_)
    by_cases h2 : Rt s w
    · by_cases h3 : 0 ≤ a
      · by_cases h4 : a < 64
        · by_cases h7 : k.length ≤ 100
          · have hok := dok_of d h1 h2
            have hwn := h1.2.1
            have hn := hok.n
            have hlt : a.toNat < s.length := by omega
            have hgd : s.getD a.toNat [] = s[a.toNat] := by rw [List.getD_eq_getElem?_getD, List.getElem?_eq_getElem hlt]; rfl
            have okc := flush_ok hok (ws := kept k 0 w) (kept_sub k w 0)
            have okf := flush_ok hok (ws := w) (fun p hp => hp)
            have c1 := crash_pc Γ s w hok k (by omega)
            have c2 := read_pc Γ _ [] okc a
            rw [if_pos ⟨h3, h4⟩, read_at hn ⟨h3, h4⟩] at c2
            have e6 : std a (std a (s.getD a.toNat []) (kept k 0 w)) [] = std a (s.getD a.toNat []) (kept k 0 w) := rfl
            rw [e6, hgd] at c2
            have c3 := flushes_pc Γ s w hok
            have l1 : (std a s[a.toNat] (kept k 0 w)).length = 128 := std_len (hok.len _ (List.getElem_mem hlt)) fun p hp => hok.wlen p (kept_sub k w 0 p hp)
            have c4 := row_pc Γ (std a s[a.toNat] (kept k 0 w)) (std a s[a.toNat] (kept k 0 w)) (by omega) (by omega)
            have c5 := crash_pc Γ s w hok (List.replicate w.length true) (by simp; omega)
            rw [kept_all w.length w 0 (by omega)] at c5
            have c6 := rsame_pc Γ _ _ _ _ okf okf
            have c7 := flushes_pc Γ _ [] okf
            rw [flush_nil] at c7
            have c8 := crash_pc Γ _ [] okf k (by omega)
            rw [show kept k 0 [] = [] from rfl, flush_nil] at c8
            simp only [and_self, decide_true] at c4 c6
            have hF : ∀ x ∈ bools (List.replicate w.length true), x.cells.length = dBool.length := bools_cells _
            have r0 := rowc_zero (bools (List.replicate w.length true)) dBool
            have re := rowc_end (bools (List.replicate w.length true)) dBool
            have hbl : (bools (List.replicate w.length true)).length = w.length := by simp [bools_length]
            rw [hbl] at r0 re
            have r0' : rowc (bools (List.replicate w.length true)) dBool 0 = List.replicate w.length (D.data (.bool false)) := by rw [r0]; simp [dBool]
            simp -implicitDefEqProofs (disch := omega) [go_sem, h2]
            refine .inl (call_data c1 (by simp [go_sem, dk]) ?_)
            simp -implicitDefEqProofs (disch := omega) [go_sem, dk]
            refine .inl (call_data c2 (by simp [go_sem, dk]) ?_)
            simp -implicitDefEqProofs (disch := omega) [go_sem, sec]
            refine loop_ren (σ := { i : Nat // i ≤ w.length }) (fun i => ⟨envL [(1, .data (.int .i64 a)), (2, .data (.sl 1 (bools k))), (3, .ptr 0 0), (7, .data (.bool true)), (8, .ptr 1 0), (9, .data (.sl 1 (bys (std a s[a.toNat] (kept k 0 w))))), (10, .data (.int .i64 0)), (11, .data (.sl 1 (bys (std a s[a.toNat] (kept k 0 (w.take i.1)))))), (12, .ref 2 0 w.length 1), (13, .data (.int .i64 i.1))], hpL [(0, .blk true [.data (.sl 1 (secs s)), .data (.sl 2 (wrs w))]), (1, .blk true [.data (.sl 1 (secs (flush s (kept k 0 w)))), .data (.sl 2 (wrs []))]), (2, .blk true (rowc (bools (List.replicate w.length true)) dBool i.1))], 3, 0, 130⟩) (fun i => w.length - i.1) ⟨0, by omega⟩ [] (rhoL [(1, some 28), (2, some 47)]) ?_ ?_
            · apply ren_lists <;> simp -implicitDefEqProofs [go_sem, kept, std]
              exact renCells_rowc rfl r0'
            · rintro ⟨i, hi⟩
              have hrl : (rowc (bools (List.replicate w.length true)) dBool i).length = w.length := by rw [rowc_length hF i (by rw [hbl]; exact hi), hbl]; simp [dBool]
              by_cases hw : i < w.length
              · have hov := rowc_over hF (i := i) (by rw [hbl]; exact hw)
                have hbt : (bools (List.replicate w.length true))[i]'(by rw [hbl]; exact hw) = .bool true := by simp [bools]
                have hov1 : (rowc (bools (List.replicate w.length true)) dBool i).set i (.data (.bool true)) = rowc (bools (List.replicate w.length true)) dBool (i + 1) := by
                  rw [hbt] at hov
                  have := (over1 _ _ _).symm.trans hov
                  simpa [dBool] using this
                have hks := kept_succ k w i hw
                have hwant : std a s[a.toNat] (kept k 0 (w.take (i + 1))) = if keepAt k i = true ∧ w[i].1 = a then w[i].2 else std a s[a.toNat] (kept k 0 (w.take i)) := by
                  rw [hks, std_append]
                  by_cases e1 : keepAt k i = true
                  · rw [if_pos e1, std_one]
                    by_cases e2 : w[i].1 = a
                    · rw [if_pos e2, if_pos ⟨e1, e2⟩]
                    · rw [if_neg e2, if_neg (fun e => e2 e.2)]
                  · rw [if_neg e1, if_neg (fun e => e1 e.1)]
                    rfl
                by_cases e2 : w[i].1 = a
                · by_cases hik : i < k.length
                  · have hka : keepAt k i = k[i] := by simp [keepAt, List.getD_eq_getElem?_getD, hik]
                    cases hkv : k[i] with
                    | true =>
                      rw [if_pos ⟨hka.trans hkv, e2⟩] at hwant
                      simp -implicitDefEqProofs (disch := omega) [go_sem, hkv, e2]
                      refine next_ren ⟨i + 1, by omega⟩ (by simp only; omega) [] (rhoL []) ?_
                      apply ren_lists <;> simp -implicitDefEqProofs [go_sem, hwant]
                      exact renCells_rowc rfl hov1.symm
                    | false =>
                      rw [if_neg (fun e => by rw [hka, hkv] at e; cases e.1)] at hwant
                      simp -implicitDefEqProofs (disch := omega) [go_sem, hkv, e2]
                      refine next_ren ⟨i + 1, by omega⟩ (by simp only; omega) [] (rhoL []) ?_
                      apply ren_lists <;> simp -implicitDefEqProofs [go_sem, hwant]
                      exact renCells_rowc rfl hov1.symm
                  · have hka : keepAt k i = false := by simp [keepAt, List.getD_eq_getElem?_getD, hik]
                    rw [if_neg (fun e => by rw [hka] at e; cases e.1)] at hwant
                    simp -implicitDefEqProofs (disch := omega) [go_sem, e2]
                    refine next_ren ⟨i + 1, by omega⟩ (by simp only; omega) [] (rhoL []) ?_
                    apply ren_lists <;> simp -implicitDefEqProofs [go_sem, hwant]
                    exact renCells_rowc rfl hov1.symm
                · rw [if_neg (fun e => e2 e.2)] at hwant
                  simp -implicitDefEqProofs (disch := omega) [go_sem, e2]
                  refine next_ren ⟨i + 1, by omega⟩ (by simp only; omega) [] (rhoL []) ?_
                  apply ren_lists <;> simp -implicitDefEqProofs [go_sem, hwant]
                  exact renCells_rowc rfl hov1.symm
              · have : i = w.length := by omega
                subst this
                simp -implicitDefEqProofs (disch := omega) [go_sem, re]
                refine .inl (call_data c3 (by simp [go_sem, dk]) ?_)
                simp -implicitDefEqProofs (disch := omega) [go_sem, dk]
                refine call_data c4 (by simp [go_sem, dk]) ?_
                simp -implicitDefEqProofs (disch := omega) [go_sem]
                refine call_keep 2 (rw := true) (cells := (bools (List.replicate w.length true)).map D.data) c5 (by simp [go_sem, re]) (fun H' hH' => frzL_c ((frz_data _ _ _ _).2 rfl) (frzL_c (fz_bools (rw := false) hH' (.inr rfl) (by simp)) frzL_n)) ?_
                simp -implicitDefEqProofs (disch := omega) [go_sem, dk]
                refine call_data c6 (by simp [go_sem, dk]) ?_
                simp -implicitDefEqProofs (disch := omega) [go_sem]
                refine side (by kernel_rfl) ?_
                simp -implicitDefEqProofs (disch := omega) [go_sem, dk]
                refine call_data c7 (by simp [go_sem, dk]) ?_
                simp -implicitDefEqProofs (disch := omega) [go_sem, dk]
                refine call_data c6 (by simp [go_sem, dk]) ?_
                simp -implicitDefEqProofs (disch := omega) [go_sem, dk]
                refine call_data c8 (by simp [go_sem, dk]) ?_
                simp -implicitDefEqProofs (disch := omega) [go_sem, dk]
                refine call_data c6 (by simp [go_sem, dk]) ?_
                simp -implicitDefEqProofs (disch := omega) [go_sem]
                refine side (by kernel_rfl) ?_
                simp -implicitDefEqProofs (disch := omega) [go_sem, Try.f4]
          · simp -implicitDefEqProofs (disch := omega) [go_sem, h2, Try.f4]
        · simp -implicitDefEqProofs (disch := omega) [go_sem, h2, Try.f4]
      · simp -implicitDefEqProofs (disch := omega) [go_sem, h2, Try.f4]
    · simp -implicitDefEqProofs (disch := omega) [go_sem, h2, Try.f4]
  · simp -implicitDefEqProofs (disch := omega) [go_sem, h1, Try.f4]
theorem law_DiskCrashes (Γ : Nat → Option (List Data)) {x0 x1 x2 : Data} (a0 : argD Try.prog 8 25 x0) (a1 : argD Try.prog 8 3 x1) (a2 : argD Try.prog 8 27 x2) : PC Try.prog Γ 4 [x0, x1, x2] (.bool true) := by
  obtain ⟨s, w, d, rfl⟩ := arg_disk a0
  obtain ⟨a, _, _, rfl⟩ := arg_i64 Try.underlying3 a1
  obtain ⟨k, hk, rfl⟩ := arg_bools a2
  exact crashes_pc Γ s w d a k hk
end Go.Proofs.Ytlfmgellojjndaa
