/- Disks: the document's own reading, flushing, crashing. -/
import Derived.Test.YtlfmgellojjndaaDE
namespace Go.Proofs.Ytlfmgellojjndaa
open Go.RowKit
set_option linter.unusedVariables false
set_option linter.unusedSimpArgs false
set_option maxRecDepth 100000 in
theorem rread_pc (Γ : Nat → Option (List Data)) (s : List (List Nat)) (w : List Wr) (h : Dok s w) (a : Int) : PC Try.prog Γ 15 [dk s w, .int .i64 a] (if 0 ≤ a ∧ a < 64 then .tup [.sl 1 (bys (std a (s.getD a.toNat []) w)), .int .i64 0] else .tup [.sl 1 [], .int .i64 1]) := by
  refine pc_by mixed Try.func15 rfl (fun args w => Try.call15 args w) ?_
  have hn := h.n
  have hwn := h.wn
  by_cases ha : 0 ≤ a ∧ a < 64
  · rw [if_pos ha]
    obtain ⟨a1, a2⟩ := ha
    have hlt : a.toNat < s.length := by omega
    have hgd : s.getD a.toNat [] = s[a.toNat] := by simp [List.getD_eq_getElem?_getD, hlt]
    rw [hgd]
    obtain ⟨R, hR⟩ : ∃ R, std a s[a.toNat] w = R := ⟨_, rfl⟩
    rw [hR]
    simp -implicitDefEqProofs (disch := omega) [go_sem, dk]
    refine loop_ren (σ := { j : Nat // j ≤ w.length ∧ R = std a s[a.toNat] (w.take j) }) (fun j => ⟨envL [(1, .data (.int .i64 a)), (2, .ptr 0 0), (6, .data (.int .i64 ((j.1 : Int) - 1)))], hpL [(0, .blk true [.data (.sl 1 (secs s)), .data (.sl 2 (wrs w))])], 1, 0, 47⟩) (fun j => j.1) ⟨w.length, by omega, by rw [List.take_length, hR]⟩ [] (rhoL []) ?_ ?_
    · apply ren_lists <;> simp -implicitDefEqProofs [go_sem]
    · rintro ⟨j, hj, hst⟩
      by_cases hj0 : 0 < j
      · have e1 : ((j : Int) - 1).toNat = j - 1 := by omega
        have hlt2 : j - 1 < w.length := by omega
        have hss := std_succ a s[a.toNat] w (j - 1) hlt2
        rw [show j - 1 + 1 = j by omega] at hss
        by_cases he : w[j - 1].1 = a
        · rw [if_pos he] at hss
          have hRw := hst.trans hss
          simp -implicitDefEqProofs (disch := omega) [go_sem, e1, he, hRw, Try.f15]
        · rw [if_neg he] at hss
          simp -implicitDefEqProofs (disch := omega) [go_sem, e1]
          refine next_ren ⟨j - 1, by omega, by rw [hst, hss]⟩ (by simp only; omega) [] (rhoL []) ?_
          apply ren_lists <;> simp -implicitDefEqProofs [go_sem]
          all_goals omega
      · have : j = 0 := by omega
        subst this
        have hRw : R = s[a.toNat] := hst
        simp -implicitDefEqProofs (disch := omega) [go_sem, hRw, sec, Try.f15]
  · rw [if_neg ha]
    by_cases a1 : 0 ≤ a
    · simp -implicitDefEqProofs (disch := omega) [go_sem, dk, Try.f15]
      exact ⟨_, ⟨_, rfl, .emp 1 1⟩, rfl⟩
    · simp -implicitDefEqProofs (disch := omega) [go_sem, dk, Try.f15]
      exact ⟨_, ⟨_, rfl, .emp 1 1⟩, rfl⟩
theorem fz_secs {ok : Bool} {H : Nat → Blk} {g n : Nat} {l : List (List Nat)} {rw : Bool} (hg : H g = .blk rw ((secs l).map D.data)) (hrw : ok = true ∨ rw = false) (hn : l.length = n) : Frz ok H (.ref g 0 n 1) (.sl 1 (secs l)) :=
  frz_ref hg hrw (by rw [secs_length, hn]) (secs_cells l) (by rw [flat_secs])
set_option maxRecDepth 100000 in
theorem rflush_pc (Γ : Nat → Option (List Data)) (s : List (List Nat)) (w : List Wr) (h : Dok s w) : PC Try.prog Γ 19 [dk s w] (dk (flush s w) []) := by
  refine pc_by mixed Try.func19 rfl (fun args w => Try.call19 args w) ?_
  have hn := h.n
  have hfl := flush_length s w
  simp -implicitDefEqProofs (disch := omega) [go_sem, dk]
  refine loop_ren (σ := { i : Nat // i ≤ 64 }) (fun i => ⟨envL [(1, .ptr 0 0), (2, .ptr 1 0), (3, .ptr 2 0), (4, .data (.int .i64 i.1))], hpL [(0, .blk true [.data (.sl 1 (secs s)), .data (.sl 2 (wrs w))]), (1, .blk true [.emp 0, .emp 0]), (2, .blk true [.ref 3 0 i.1 1, .emp 0]), (3, .blk true ((secs ((flush s w).take i.1)).map .data))], 4, 0, 25⟩) (fun i => 64 - i.1) ⟨0, by omega⟩ [] (rhoL [(2, some 3), (3, none)]) ?_ ?_
  · apply ren_lists <;> simp -implicitDefEqProofs [go_sem]
    rfl
  · rintro ⟨i, hi⟩
    have htl : ((flush s w).take i).length = i := by rw [List.length_take]; omega
    by_cases hi6 : i < 64
    · have hrd := rread_pc Γ s w h i
      rw [if_pos ⟨by omega, by omega⟩] at hrd
      have hlt : i < s.length := by omega
      have hgd : s.getD (i : Int).toNat [] = s[i] := by simp [List.getD_eq_getElem?_getD, hlt]
      rw [hgd] at hrd
      have hfa := flush_at s w i hlt
      have hsec : (secs ((flush s w).take (i + 1))).map D.data = (secs ((flush s w).take i)).map D.data ++ [D.data (.sl 1 (bys (std (i : Int) s[i] w)))] := by
        rw [List.take_add_one, List.getElem?_eq_getElem (by omega), Option.toList_some, hfa]
        simp [secs, sec]
      simp -implicitDefEqProofs (disch := omega) [go_sem]
      refine .inl (call_data hrd (by simp [go_sem, dk]) ?_)
      simp -implicitDefEqProofs (disch := omega) [go_sem]
      refine next_ren ⟨i + 1, by omega⟩ (by simp only; omega) [] (rhoL [(3, some 18)]) ?_
      apply ren_lists <;> simp -implicitDefEqProofs [go_sem]
      rw [hsec]
      exact renCells_plain rfl (by simp [plainD])
    · have : i = 64 := by omega
      subst this
      have ht : (flush s w).take 64 = flush s w := List.take_of_length_le (by omega)
      simp -implicitDefEqProofs (disch := omega) [go_sem, ht, Try.f19]
      exact ⟨_, ⟨_, rfl, frz_aggL (frzL_c (fz_secs (rw := true) (l := flush s w) (by simp [go_sem]) (.inl rfl) (by omega)) (frzL_c (.emp 0 2) frzL_n))⟩, rfl⟩
theorem dok_kept {s : List (List Nat)} {w v : List Wr} (h : Dok s w) (hv : ∀ p ∈ v, p ∈ w) (hl : v.length ≤ 200) : Dok s v := ⟨h.n, h.len, h.lt, fun p hp => h.wlen p (hv p hp), fun p hp => h.wat p (hv p hp), fun p hp => h.wlt p (hv p hp), hl⟩
set_option maxRecDepth 100000 in
theorem rcrash_pc (Γ : Nat → Option (List Data)) (s : List (List Nat)) (w : List Wr) (h : Dok s w) (keep : List Bool) (hk : keep.length ≤ 1000) : PC Try.prog Γ 21 [dk s w, .sl 1 (bools keep)] (dk (flush s (kept keep 0 w)) []) := by
  refine pc_by mixed Try.func21 rfl (fun args w => Try.call21 args w) ?_
  have hwn := h.wn
  have hkl := kept_le keep w 0
  have hfl := rflush_pc Γ s (kept keep 0 w) (dok_kept h (kept_sub keep w 0) (by omega))
  simp -implicitDefEqProofs (disch := omega) [go_sem, dk]
  refine loop_ren (σ := { i : Nat // i ≤ w.length }) (fun i => ⟨envL [(1, .data (.sl 1 (bools keep))), (2, .ptr 0 0), (4, .ptr 1 0), (5, .ptr 2 0), (6, .data (.int .i64 i.1))], hpL [(0, .blk true [.data (.sl 1 (secs s)), .data (.sl 2 (wrs w))]), (1, .blk true [.emp 0, .emp 0]), (2, .blk true [.data (.sl 1 (secs s)), .ref 3 0 (kept keep 0 (w.take i.1)).length 2]), (3, .blk true ((flat (wrs (kept keep 0 (w.take i.1)))).map .data))], 4, 0, 39⟩) (fun i => w.length - i.1) ⟨0, by omega⟩ [] (rhoL [(2, some 5), (3, none)]) ?_ ?_
  · apply ren_lists <;> simp -implicitDefEqProofs [go_sem, kept]
    rfl
  · rintro ⟨i, hi⟩
    by_cases hw : i < w.length
    · have hks := kept_succ keep w i hw
      have hkl2 := kept_le keep (w.take i) 0
      rw [List.length_take] at hkl2
      by_cases hik : i < keep.length
      · have hka : keepAt keep i = keep[i] := by simp [keepAt, List.getD_eq_getElem?_getD, hik]
        cases hkv : keep[i] with
        | true =>
          rw [hka, hkv] at hks
          simp only [if_true] at hks
          have hfl : (flat (wrs (kept keep 0 (w.take (i + 1))))).map D.data = (flat (wrs (kept keep 0 (w.take i)))).map D.data ++ [D.data (.int .i64 w[i].1), .data (.sl 1 (bys w[i].2))] := by
            rw [hks, ← wrs_append, flat_wrs1]; simp
          simp -implicitDefEqProofs (disch := omega) [go_sem, hkv]
          refine side (by kernel_rfl) ?_
          simp -implicitDefEqProofs (disch := omega) [go_sem]
          refine next_ren ⟨i + 1, by omega⟩ (by simp only; omega) [] (rhoL [(3, some 27)]) ?_
          apply ren_lists <;> simp -implicitDefEqProofs [go_sem, hks]
          rw [← hks, hfl]
          exact renCells_plain rfl (by simp [plainD])
        | false =>
          rw [hka, hkv] at hks
          simp at hks
          simp -implicitDefEqProofs (disch := omega) [go_sem, hkv]
          refine next_ren ⟨i + 1, by omega⟩ (by simp only; omega) [] (rhoL []) ?_
          apply ren_lists <;> simp -implicitDefEqProofs [go_sem, hks]
      · have hka : keepAt keep i = false := by simp [keepAt, List.getD_eq_getElem?_getD, hik]
        rw [hka] at hks
        simp at hks
        simp -implicitDefEqProofs (disch := omega) [go_sem]
        refine next_ren ⟨i + 1, by omega⟩ (by simp only; omega) [] (rhoL []) ?_
        apply ren_lists <;> simp -implicitDefEqProofs [go_sem, hks]
    · have : i = w.length := by omega
      subst this
      simp -implicitDefEqProofs (disch := omega) [go_sem]
      refine .inl (call_keep 3 (rw := true) (cells := (flat (wrs (kept keep 0 w))).map D.data) hfl (by simp [go_sem]) (fun H' hH' => frzL_c (frz_aggL (frzL_c ((frz_data _ _ _ _).2 rfl) (frzL_c (fz_wrs (rw := false) hH' (.inr rfl) rfl) frzL_n))) frzL_n) ?_)
      simp -implicitDefEqProofs (disch := omega) [go_sem, dk, Try.f21]
set_option maxRecDepth 100000 in
theorem rsame_pc (Γ : Nat → Option (List Data)) (s t : List (List Nat)) (w v : List Wr) (h : Dok s w) (k : Dok t v) : PC Try.prog Γ 16 [dk s w, dk t v] (.bool (decide (s = t ∧ w = v))) := by
  refine pc_by mixed Try.func16 rfl (fun args w => Try.call16 args w) ?_
  have hn := h.n
  have kn := k.n
  have hwn := h.wn
  have kwn := k.wn
  by_cases hl : w.length = v.length
  · simp -implicitDefEqProofs (disch := omega) [go_sem, dk]
    refine loop_ren (σ := { i : Nat // i ≤ s.length ∧ ∀ j, j < i → s[j]? = t[j]? }) (fun i => ⟨envL [(2, .ptr 0 0), (3, .ptr 1 0), (5, .data (.int .i64 i.1))], hpL [(0, .blk true [.data (.sl 1 (secs s)), .data (.sl 2 (wrs w))]), (1, .blk true [.data (.sl 1 (secs t)), .data (.sl 2 (wrs v))])], 2, 0, 82⟩) (fun i => s.length - i.1) ⟨0, by omega, by omega⟩ [] (rhoL []) ?_ ?_
    · apply ren_lists <;> simp -implicitDefEqProofs [go_sem]
    · rintro ⟨i, hi, heq⟩
      by_cases hs : i < s.length
      · have l1 := h.len _ (List.getElem_mem hs)
        have l2 := k.len _ (List.getElem_mem (show i < t.length by omega))
        have hr := row_pc Γ s[i] t[i] (by omega) (by omega)
        simp -implicitDefEqProofs (disch := omega) [go_sem, sec]
        refine call_data hr (by simp [go_sem]) ?_
        simp -implicitDefEqProofs (disch := omega) [go_sem]
        refine side (by kernel_rfl) ?_
        by_cases hab : s[i] = t[i]
        · simp -implicitDefEqProofs (disch := omega) [go_sem, hab]
          refine next_ren ⟨i + 1, by omega, fun j hj => ?_⟩ (by simp only; omega) [] (rhoL []) ?_
          · by_cases e : j = i
            · subst e
              rw [List.getElem?_eq_getElem hs, List.getElem?_eq_getElem (by omega), hab]
            · exact heq j (by omega)
          apply ren_lists <;> simp -implicitDefEqProofs [go_sem]
        · have hne : ¬ (s = t ∧ w = v) := fun e => hab (by have := e.1; subst this; rfl)
          rw [decide_eq_false hne]
          simp -implicitDefEqProofs (disch := omega) [go_sem, hab, Try.f16]
      · have hst : s = t := eqf_end (by omega) (fun j hj => heq j (by omega))
        simp -implicitDefEqProofs (disch := omega) [go_sem]
        refine loop_ren (σ := { i : Nat // i ≤ w.length ∧ ∀ j, j < i → w[j]? = v[j]? }) (fun i => ⟨envL [(2, .ptr 0 0), (3, .ptr 1 0), (7, .data (.int .i64 i.1))], hpL [(0, .blk true [.data (.sl 1 (secs s)), .data (.sl 2 (wrs w))]), (1, .blk true [.data (.sl 1 (secs t)), .data (.sl 2 (wrs v))])], 2, 0, 82⟩) (fun i => w.length - i.1) ⟨0, by omega, by omega⟩ [] (rhoL []) ?_ ?_
        · apply ren_lists <;> simp -implicitDefEqProofs [go_sem]
        · rintro ⟨i, hi, heq⟩
          by_cases hw : i < w.length
          · have l1 := h.wlen _ (List.getElem_mem hw)
            have l2 := k.wlen _ (List.getElem_mem (show i < v.length by omega))
            have hr := row_pc Γ w[i].2 v[i].2 (by omega) (by omega)
            simp -implicitDefEqProofs (disch := omega) [go_sem]
            refine call_data hr (by simp [go_sem]) ?_
            simp -implicitDefEqProofs (disch := omega) [go_sem]
            refine side (by kernel_rfl) ?_
            by_cases hab : w[i].2 = v[i].2
            · by_cases ha : w[i].1 = v[i].1
              · simp -implicitDefEqProofs (disch := omega) [go_sem, hab, ha]
                refine side (by kernel_rfl) ?_
                simp -implicitDefEqProofs (disch := omega) [go_sem]
                refine next_ren ⟨i + 1, by omega, fun j hj => ?_⟩ (by simp only; omega) [] (rhoL []) ?_
                · by_cases e : j = i
                  · subst e
                    rw [List.getElem?_eq_getElem hw, List.getElem?_eq_getElem (by omega)]
                    exact congrArg some (Prod.ext ha hab)
                  · exact heq j (by omega)
                apply ren_lists <;> simp -implicitDefEqProofs [go_sem]
              · have hne : ¬ (s = t ∧ w = v) := fun e => ha (by have := e.2; subst this; rfl)
                rw [decide_eq_false hne]
                simp -implicitDefEqProofs (disch := omega) [go_sem, hab, ha]
                refine side (by kernel_rfl) ?_
                simp -implicitDefEqProofs (disch := omega) [go_sem, Try.f16]
            · have hne : ¬ (s = t ∧ w = v) := fun e => hab (by have := e.2; subst this; rfl)
              rw [decide_eq_false hne]
              simp -implicitDefEqProofs (disch := omega) [go_sem, hab]
              refine side (by kernel_rfl) ?_
              simp -implicitDefEqProofs (disch := omega) [go_sem, Try.f16]
          · have hwv : w = v := eqf_end hl (fun j hj => heq j (by omega))
            rw [decide_eq_true (show s = t ∧ w = v from ⟨hst, hwv⟩)]
            simp -implicitDefEqProofs (disch := omega) [go_sem, Try.f16]
  · have hne : ¬ (s = t ∧ w = v) := fun e => hl (by rw [e.2])
    rw [decide_eq_false hne]
    simp -implicitDefEqProofs (disch := omega) [go_sem, dk, Try.f16]
end Go.Proofs.Ytlfmgellojjndaa
