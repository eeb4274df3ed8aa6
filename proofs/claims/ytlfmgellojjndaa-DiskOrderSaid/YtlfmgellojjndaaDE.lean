/- Disks: the document's own answers. -/
import Derived.Test.YtlfmgellojjndaaDD
namespace Go.Proofs.Ytlfmgellojjndaa
open Go.RowKit
set_option linter.unusedVariables false
set_option linter.unusedSimpArgs false
def Sm (s : List (List Nat)) (w : List Wr) : Prop := s.length ≤ 70 ∧ w.length ≤ 70 ∧ (∀ b ∈ s, b.length ≤ 200) ∧ ∀ p ∈ w, p.2.length ≤ 200
instance (s : List (List Nat)) (w : List Wr) : Decidable (Sm s w) := by unfold Sm; infer_instance
def Rt (s : List (List Nat)) (w : List Wr) : Prop := s.length = 64 ∧ (∀ b ∈ s, b.length = 128) ∧ ∀ p ∈ w, 0 ≤ p.1 ∧ p.1 ≤ 63 ∧ p.2.length = 128
instance (s : List (List Nat)) (w : List Wr) : Decidable (Rt s w) := by unfold Rt; infer_instance
set_option maxRecDepth 100000 in
theorem rsmall_pc (Γ : Nat → Option (List Data)) (s : List (List Nat)) (w : List Wr) (hs : s.length ≤ 140737488351232) (hw : w.length ≤ 140737488351232) : PC Try.prog Γ 10 [dk s w] (.bool (decide (Sm s w))) := by
  refine pc_by mixed Try.func10 rfl (fun args w => Try.call10 args w) ?_
  by_cases h1 : s.length ≤ 70
  · by_cases h2 : w.length ≤ 70
    · simp -implicitDefEqProofs (disch := omega) [go_sem, dk]
      refine loop_ren (σ := { i : Nat // i ≤ s.length ∧ ∀ j (h : j < s.length), j < i → s[j].length ≤ 200 }) (fun i => ⟨envL [(1, .ptr 0 0), (3, .data (.int .i64 i.1))], hpL [(0, .blk true [.data (.sl 1 (secs s)), .data (.sl 2 (wrs w))])], 1, 0, 44⟩) (fun i => s.length - i.1) ⟨0, by omega, by omega⟩ [] (rhoL []) ?_ ?_
      · apply ren_lists <;> simp -implicitDefEqProofs [go_sem]
      · rintro ⟨i, hi, hall⟩
        by_cases h : i < s.length
        · by_cases hl : s[i].length ≤ 200
          · simp -implicitDefEqProofs (disch := omega) [go_sem, sec]
            refine next_ren ⟨i + 1, by omega, fun j hj hji => ?_⟩ (by simp only; omega) [] (rhoL []) ?_
            · by_cases e : j = i
              · subst e; exact hl
              · exact hall j hj (by omega)
            apply ren_lists <;> simp -implicitDefEqProofs [go_sem]
          · have hno : ¬ Sm s w := fun hk => hl (hk.2.2.1 _ (List.getElem_mem h))
            simp -implicitDefEqProofs (disch := omega) [go_sem, sec, hno, Try.f10]
        · have hsl : ∀ b ∈ s, b.length ≤ 200 := fun b hb => by
            obtain ⟨j, hj, rfl⟩ := List.getElem_of_mem hb
            exact hall j hj (by omega)
          simp -implicitDefEqProofs (disch := omega) [go_sem]
          refine loop_ren (σ := { i : Nat // i ≤ w.length ∧ ∀ j (h : j < w.length), j < i → w[j].2.length ≤ 200 }) (fun i => ⟨envL [(1, .ptr 0 0), (4, .data (.int .i64 i.1))], hpL [(0, .blk true [.data (.sl 1 (secs s)), .data (.sl 2 (wrs w))])], 1, 0, 44⟩) (fun i => w.length - i.1) ⟨0, by omega, by omega⟩ [] (rhoL []) ?_ ?_
          · apply ren_lists <;> simp -implicitDefEqProofs [go_sem]
          · rintro ⟨i, hi, hall⟩
            by_cases h : i < w.length
            · by_cases hl : w[i].2.length ≤ 200
              · simp -implicitDefEqProofs (disch := omega) [go_sem]
                refine next_ren ⟨i + 1, by omega, fun j hj hji => ?_⟩ (by simp only; omega) [] (rhoL []) ?_
                · by_cases e : j = i
                  · subst e; exact hl
                  · exact hall j hj (by omega)
                apply ren_lists <;> simp -implicitDefEqProofs [go_sem]
              · have hno : ¬ Sm s w := fun hk => hl (hk.2.2.2 _ (List.getElem_mem h))
                simp -implicitDefEqProofs (disch := omega) [go_sem, hno, Try.f10]
            · have hyes : Sm s w := ⟨h1, h2, hsl, fun p hp => by
                obtain ⟨j, hj, rfl⟩ := List.getElem_of_mem hp
                exact hall j hj (by omega)⟩
              simp -implicitDefEqProofs (disch := omega) [go_sem, hyes, Try.f10]
    · have hno : ¬ Sm s w := fun hk => h2 hk.2.1
      simp -implicitDefEqProofs (disch := omega) [go_sem, dk, hno, Try.f10]
  · have hno : ¬ Sm s w := fun hk => h1 hk.1
    simp -implicitDefEqProofs (disch := omega) [go_sem, dk, hno, Try.f10]
set_option maxRecDepth 100000 in
theorem rright_pc (Γ : Nat → Option (List Data)) (s : List (List Nat)) (w : List Wr) (hs : s.length ≤ 140737488351232) (hw : w.length ≤ 140737488351232) : PC Try.prog Γ 11 [dk s w] (.bool (decide (Rt s w))) := by
  refine pc_by mixed Try.func11 rfl (fun args w => Try.call11 args w) ?_
  by_cases h1 : s.length = 64
  · simp -implicitDefEqProofs (disch := omega) [go_sem, dk]
    refine loop_ren (σ := { i : Nat // i ≤ s.length ∧ ∀ j (h : j < s.length), j < i → s[j].length = 128 }) (fun i => ⟨envL [(1, .ptr 0 0), (3, .data (.int .i64 i.1))], hpL [(0, .blk true [.data (.sl 1 (secs s)), .data (.sl 2 (wrs w))])], 1, 0, 53⟩) (fun i => s.length - i.1) ⟨0, by omega, by omega⟩ [] (rhoL []) ?_ ?_
    · apply ren_lists <;> simp -implicitDefEqProofs [go_sem]
    · rintro ⟨i, hi, hall⟩
      by_cases h : i < s.length
      · by_cases hl : s[i].length = 128
        · simp -implicitDefEqProofs (disch := omega) [go_sem, sec]
          refine next_ren ⟨i + 1, by omega, fun j hj hji => ?_⟩ (by simp only; omega) [] (rhoL []) ?_
          · by_cases e : j = i
            · subst e; exact hl
            · exact hall j hj (by omega)
          apply ren_lists <;> simp -implicitDefEqProofs [go_sem]
        · have hno : ¬ Rt s w := fun hk => hl (hk.2.1 _ (List.getElem_mem h))
          simp -implicitDefEqProofs (disch := omega) [go_sem, sec, hno, Try.f11]
      · have hsl : ∀ b ∈ s, b.length = 128 := fun b hb => by
          obtain ⟨j, hj, rfl⟩ := List.getElem_of_mem hb
          exact hall j hj (by omega)
        simp -implicitDefEqProofs (disch := omega) [go_sem]
        refine loop_ren (σ := { i : Nat // i ≤ w.length ∧ ∀ j (h : j < w.length), j < i → 0 ≤ w[j].1 ∧ w[j].1 ≤ 63 ∧ w[j].2.length = 128 }) (fun i => ⟨envL [(1, .ptr 0 0), (4, .data (.int .i64 i.1))], hpL [(0, .blk true [.data (.sl 1 (secs s)), .data (.sl 2 (wrs w))])], 1, 0, 53⟩) (fun i => w.length - i.1) ⟨0, by omega, by omega⟩ [] (rhoL []) ?_ ?_
        · apply ren_lists <;> simp -implicitDefEqProofs [go_sem]
        · rintro ⟨i, hi, hall⟩
          by_cases h : i < w.length
          · by_cases hl : 0 ≤ w[i].1 ∧ w[i].1 ≤ 63 ∧ w[i].2.length = 128
            · obtain ⟨l1, l2, l3⟩ := hl
              simp -implicitDefEqProofs (disch := omega) [go_sem]
              refine next_ren ⟨i + 1, by omega, fun j hj hji => ?_⟩ (by simp only; omega) [] (rhoL []) ?_
              · by_cases e : j = i
                · subst e; exact ⟨l1, l2, l3⟩
                · exact hall j hj (by omega)
              apply ren_lists <;> simp -implicitDefEqProofs [go_sem]
            · have hno : ¬ Rt s w := fun hk => hl (hk.2.2 _ (List.getElem_mem h))
              by_cases l1 : 0 ≤ w[i].1
              · by_cases l2 : w[i].1 ≤ 63
                · have l3 : ¬ w[i].2.length = 128 := fun l3 => hl ⟨l1, l2, l3⟩
                  simp -implicitDefEqProofs (disch := omega) [go_sem, hno, Try.f11]
                · simp -implicitDefEqProofs (disch := omega) [go_sem, hno, Try.f11]
              · simp -implicitDefEqProofs (disch := omega) [go_sem, hno, Try.f11]
          · have hyes : Rt s w := ⟨h1, hsl, fun p hp => by
              obtain ⟨j, hj, rfl⟩ := List.getElem_of_mem hp
              exact hall j hj (by omega)⟩
            simp -implicitDefEqProofs (disch := omega) [go_sem, hyes, Try.f11]
  · have hno : ¬ Rt s w := fun hk => h1 hk.1
    simp -implicitDefEqProofs (disch := omega) [go_sem, dk, hno, Try.f11]
set_option maxRecDepth 100000 in
theorem rwrite_pc (Γ : Nat → Option (List Data)) (s : List (List Nat)) (w : List Wr) (hw : w.length ≤ 100000) (a : Int) (b : List Nat) (hbl : b.length ≤ 140737488351232) : PC Try.prog Γ 13 [dk s w, .int .i64 a, .sl 1 (bys b)] (wrote s w a b) := by
  refine pc_by mixed Try.func13 rfl (fun args w => Try.call13 args w) ?_
  by_cases hf : wrOk (a, b) = true
  · have hb : (0 ≤ a ∧ a < 64) ∧ b.length = 128 := by simpa [wrOk] using hf
    obtain ⟨⟨a1, a2⟩, b1⟩ := hb
    simp -implicitDefEqProofs (disch := omega) [go_sem, dk]
    refine side (by kernel_rfl) ?_
    simp -implicitDefEqProofs (disch := omega) [go_sem, Try.f13]
    refine ⟨_, ⟨_, rfl, frz_aggL (frzL_c ((frz_data _ _ _ _).2 rfl) (frzL_c (fz_wrs (rw := true) (l := w ++ [(a, b)]) (by simp [go_sem, ← wrs_append, flat_wrs1]) (.inl rfl) (by simp)) frzL_n))⟩, ?_⟩
    simp only [wrote, hf, if_true]; rfl
  · have hf' : wrOk (a, b) = false := by simpa using hf
    by_cases a1 : 0 ≤ a
    · by_cases a2 : a ≤ 63
      · have b1 : ¬ b.length = 128 := fun b1 => hf (by simp [wrOk]; omega)
        simp -implicitDefEqProofs (disch := omega) [go_sem, dk, Try.f13, wrote, hf']
      · simp -implicitDefEqProofs (disch := omega) [go_sem, dk, Try.f13, wrote, hf']
    · simp -implicitDefEqProofs (disch := omega) [go_sem, dk, Try.f13, wrote, hf']
end Go.Proofs.Ytlfmgellojjndaa
