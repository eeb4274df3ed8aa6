/- Disks: are two the same; is one right. -/
import Derived.Test.YtlfmgellojjndaaDC
namespace Go.Proofs.Ytlfmgellojjndaa
open Go.RowKit
set_option linter.unusedVariables false
set_option linter.unusedSimpArgs false
theorem samePut_pc (Γ : Nat → Option (List Data)) (p q : Wr) (hp : ∀ x ∈ p.2, x < 256) (hq : ∀ x ∈ q.2, x < 256) : PC Try.prog Γ 33 [wr p, wr q] (.bool (decide (p = q))) := by
  refine pc_by mixed Try.func33 rfl (fun args w => Try.call33 args w) ?_
  have he := equal_pc Γ p.2 q.2 hp hq
  obtain ⟨p1, p2⟩ := p
  obtain ⟨q1, q2⟩ := q
  by_cases h : p1 = q1
  · simp -implicitDefEqProofs (disch := omega) [go_sem, wr, Try.f33]
    refine .inl (call_data he (by simp [go_sem]) ?_)
    simp -implicitDefEqProofs (disch := omega) [go_sem, h, Try.f33]
  · simp -implicitDefEqProofs (disch := omega) [go_sem, wr, h, Try.f33]
theorem eqf_end {α : Type} {a b : List α} (hl : a.length = b.length) (h : ∀ j, j < a.length → a[j]? = b[j]?) : a = b := List.ext_getElem? fun j => by
  by_cases hj : j < a.length
  · exact h j hj
  · rw [List.getElem?_eq_none (by omega), List.getElem?_eq_none (by omega)]
set_option maxRecDepth 100000 in
theorem eqfSecs_pc (Γ : Nat → Option (List Data)) (a b : List (List Nat)) (ha : ∀ c ∈ a, ∀ x ∈ c, x < 256) (hb : ∀ c ∈ b, ∀ x ∈ c, x < 256) (la : a.length ≤ 1000000) (lb : b.length ≤ 1000000) :
    PC Try.prog Γ 30 [.sl 1 (secs a), .sl 1 (secs b), .fn 31] (.bool (decide (a = b))) := by
  refine pc_by mixed Try.func30 rfl (fun args w => Try.call30 args w) ?_
  by_cases hl : a.length = b.length
  · simp -implicitDefEqProofs (disch := omega) [go_sem]
    refine loop_ren (σ := { i : Nat // i ≤ a.length ∧ ∀ j, j < i → a[j]? = b[j]? }) (fun i => ⟨envL [(1, .data (.sl 1 (secs b))), (2, .data (.fn 31)), (15, .data (.sl 1 (secs a))), (16, .data (.int .i64 a.length)), (17, .data (.int .i64 i.1))], hpL [], 0, 0, 32⟩) (fun i => a.length - i.1) ⟨0, by omega, by omega⟩ [] (rhoL []) ?_ ?_
    · apply ren_lists <;> simp -implicitDefEqProofs [go_sem]
    · rintro ⟨i, hi, heq⟩
      by_cases h : i < a.length
      · have he := equal_pc Γ a[i] b[i] (ha _ (List.getElem_mem _)) (hb _ (List.getElem_mem _))
        simp -implicitDefEqProofs (disch := omega) [go_sem, sec]
        refine .inl (call_data he (by simp [go_sem]) ?_)
        by_cases hab : a[i] = b[i]
        · simp -implicitDefEqProofs (disch := omega) [go_sem, hab]
          refine next_ren ⟨i + 1, by omega, fun j hj => ?_⟩ (by simp only; omega) [] (rhoL []) ?_
          · by_cases e : j = i
            · subst e
              rw [List.getElem?_eq_getElem h, List.getElem?_eq_getElem (by omega), hab]
            · exact heq j (by omega)
          apply ren_lists <;> simp -implicitDefEqProofs [go_sem]
        · have hne : a ≠ b := fun e => hab (by subst e; rfl)
          simp -implicitDefEqProofs (disch := omega) [go_sem, hab, hne, Try.f30]
      · have : i = a.length := by omega
        subst this
        have hab := eqf_end hl heq
        simp -implicitDefEqProofs (disch := omega) [go_sem, hab, Try.f30]
  · have hne : a ≠ b := fun e => hl (by rw [e])
    simp -implicitDefEqProofs (disch := omega) [go_sem, hne, Try.f30]
set_option maxRecDepth 100000 in
theorem eqfWrs_pc (Γ : Nat → Option (List Data)) (a b : List Wr) (ha : ∀ c ∈ a, ∀ x ∈ c.2, x < 256) (hb : ∀ c ∈ b, ∀ x ∈ c.2, x < 256) (la : a.length ≤ 1000000) (lb : b.length ≤ 1000000) :
    PC Try.prog Γ 32 [.sl 2 (wrs a), .sl 2 (wrs b), .fn 33] (.bool (decide (a = b))) := by
  refine pc_by mixed Try.func32 rfl (fun args w => Try.call32 args w) ?_
  by_cases hl : a.length = b.length
  · simp -implicitDefEqProofs (disch := omega) [go_sem]
    refine loop_ren (σ := { i : Nat // i ≤ a.length ∧ ∀ j, j < i → a[j]? = b[j]? }) (fun i => ⟨envL [(1, .data (.sl 2 (wrs b))), (2, .data (.fn 33)), (15, .data (.sl 2 (wrs a))), (16, .data (.int .i64 a.length)), (17, .data (.int .i64 i.1))], hpL [], 0, 0, 32⟩) (fun i => a.length - i.1) ⟨0, by omega, by omega⟩ [] (rhoL []) ?_ ?_
    · apply ren_lists <;> simp -implicitDefEqProofs [go_sem]
    · rintro ⟨i, hi, heq⟩
      by_cases h : i < a.length
      · have he := samePut_pc Γ a[i] b[i] (ha _ (List.getElem_mem _)) (hb _ (List.getElem_mem _))
        simp -implicitDefEqProofs (disch := omega) [go_sem]
        refine .inl (call_data he (by simp [go_sem, wr]) ?_)
        by_cases hab : a[i] = b[i]
        · simp -implicitDefEqProofs (disch := omega) [go_sem, hab]
          refine next_ren ⟨i + 1, by omega, fun j hj => ?_⟩ (by simp only; omega) [] (rhoL []) ?_
          · by_cases e : j = i
            · subst e
              rw [List.getElem?_eq_getElem h, List.getElem?_eq_getElem (by omega), hab]
            · exact heq j (by omega)
          apply ren_lists <;> simp -implicitDefEqProofs [go_sem]
        · have hne : a ≠ b := fun e => hab (by subst e; rfl)
          simp -implicitDefEqProofs (disch := omega) [go_sem, hab, hne, Try.f32]
      · have : i = a.length := by omega
        subst this
        have hab := eqf_end hl heq
        simp -implicitDefEqProofs (disch := omega) [go_sem, hab, Try.f32]
  · have hne : a ≠ b := fun e => hl (by rw [e])
    simp -implicitDefEqProofs (disch := omega) [go_sem, hne, Try.f32]
theorem same_pc (Γ : Nat → Option (List Data)) (s t : List (List Nat)) (w v : List Wr) (h : Dok s w) (k : Dok t v) : PC Try.prog Γ 24 [dk s w, dk t v] (.bool (decide (s = t ∧ w = v))) := by
  refine pc_by mixed Try.func24 rfl (fun args w => Try.call24 args w) ?_
  have hn := h.n
  have kn := k.n
  have hwn := h.wn
  have kwn := k.wn
  have h1 := eqfSecs_pc Γ s t h.lt k.lt (by omega) (by omega)
  have h2 := eqfWrs_pc Γ w v h.wlt k.wlt (by omega) (by omega)
  simp -implicitDefEqProofs (disch := omega) [go_sem, dk]
  refine .inl (call_data h1 (by simp [go_sem]) ?_)
  by_cases e : s = t
  · simp -implicitDefEqProofs (disch := omega) [go_sem, e]
    refine .inl (call_data h2 (by simp [go_sem]) ?_)
    simp -implicitDefEqProofs (disch := omega) [go_sem, e, Try.f24]
  · simp -implicitDefEqProofs (disch := omega) [go_sem, e, Try.f24]
/-- A right disk. (For whatever arguments the law may be asked of, this is told by the document's own answer.) -/
theorem fits_all {w : List Wr} (h : ∀ p ∈ w, wrOk p = true) (p : Wr) (hp : p ∈ w) : 0 ≤ p.1 ∧ p.1 < 64 ∧ p.2.length = 128 := by
  have := h p hp
  simp [wrOk] at this
  omega
set_option maxRecDepth 100000 in
theorem right_pc (Γ : Nat → Option (List Data)) (s : List (List Nat)) (w : List Wr) (h : Dok s w) : PC Try.prog Γ 22 [dk s w] (.bool true) := by
  refine pc_by mixed Try.func22 rfl (fun args w => Try.call22 args w) ?_
  have hn := h.n
  have hwn := h.wn
  simp -implicitDefEqProofs (disch := omega) [go_sem, dk]
  refine loop_ren (σ := { i : Nat // i ≤ s.length }) (fun i => ⟨envL [(1, .ptr 0 0), (12, .data (.sl 1 (secs s))), (13, .data (.int .i64 s.length)), (14, .data (.int .i64 i.1))], hpL [(0, .blk true [.data (.sl 1 (secs s)), .data (.sl 2 (wrs w))])], 1, 0, 33⟩) (fun i => s.length - i.1) ⟨0, by omega⟩ [] (rhoL []) ?_ ?_
  · apply ren_lists <;> simp -implicitDefEqProofs [go_sem]
  · rintro ⟨i, hi⟩
    by_cases hs : i < s.length
    · have hl := h.len _ (List.getElem_mem hs)
      simp -implicitDefEqProofs (disch := omega) [go_sem, sec]
      refine next_ren ⟨i + 1, by omega⟩ (by simp only; omega) [] (rhoL []) ?_
      apply ren_lists <;> simp -implicitDefEqProofs [go_sem]
    · simp -implicitDefEqProofs (disch := omega) [go_sem]
      refine loop_ren (σ := { i : Nat // i ≤ w.length }) (fun i => ⟨envL [(23, .data (.sl 2 (wrs w))), (24, .data (.int .i64 w.length)), (25, .data (.int .i64 i.1))], hpL [], 0, 0, 33⟩) (fun i => w.length - i.1) ⟨0, by omega⟩ [] (rhoL []) ?_ ?_
      · apply ren_lists <;> simp -implicitDefEqProofs [go_sem]
      · rintro ⟨j, hj⟩
        by_cases hw : j < w.length
        · have hf := fits_pc Γ w[j]
          have hok : wrOk w[j] = true := by
            have h1 := h.wat _ (List.getElem_mem hw)
            have h2 := h.wlen _ (List.getElem_mem hw)
            simp [wrOk]; omega
          rw [hok] at hf
          simp -implicitDefEqProofs (disch := omega) [go_sem]
          refine .inl (call_data hf (by simp [go_sem, wr]) ?_)
          simp -implicitDefEqProofs (disch := omega) [go_sem]
          refine next_ren ⟨j + 1, by omega⟩ (by simp only; omega) [] (rhoL []) ?_
          apply ren_lists <;> simp -implicitDefEqProofs [go_sem]
        · simp -implicitDefEqProofs (disch := omega) [go_sem, Try.f22]
end Go.Proofs.Ytlfmgellojjndaa
