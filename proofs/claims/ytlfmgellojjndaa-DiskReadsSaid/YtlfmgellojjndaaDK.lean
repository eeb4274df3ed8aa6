/- Disks: DiskReads. -/
import Derived.Test.YtlfmgellojjndaaDI
namespace Go.Proofs.Ytlfmgellojjndaa
open Go.RowKit
set_option linter.unusedVariables false
set_option linter.unusedSimpArgs false
theorem rt_of {s : List (List Nat)} {w : List Wr} (h : Dok s w) : Rt s w := ⟨h.n, h.len, fun p hp => by have h1 := h.wat p hp; have h2 := h.wlen p hp; omega⟩
theorem read_at {s : List (List Nat)} (h : s.length = 64) {a : Int} (ha : 0 ≤ a ∧ a < 64) (w : List Wr) : (flush s w).getD a.toNat [] = std a (s.getD a.toNat []) w := by
  have hlt : a.toNat < s.length := by omega
  have hlf : a.toNat < (flush s w).length := by rw [flush_length]; exact hlt
  rw [List.getD_eq_getElem?_getD, List.getElem?_eq_getElem hlf, flush_at s w a.toNat hlt, List.getD_eq_getElem?_getD, List.getElem?_eq_getElem hlt]
  have e : ((a.toNat : Nat) : Int) = a := by omega
  rw [e]
  rfl
theorem get_len {s : List (List Nat)} {w : List Wr} (h : Dok s w) {a : Int} (ha : 0 ≤ a ∧ a < 64) : (s.getD a.toNat []).length = 128 := by
  have hlt : a.toNat < s.length := by have := h.n; omega
  rw [List.getD_eq_getElem?_getD, List.getElem?_eq_getElem hlt]
  exact h.len _ (List.getElem_mem hlt)
set_option maxHeartbeats 4000000 in
set_option maxRecDepth 100000 in
theorem reads_pc (Γ : Nat → Option (List Data)) (s : List (List Nat)) (w : List Wr) (d : Din s w) (a : Int) (b : List Nat) (lb : ∀ c ∈ b, c < 256) (hb : b.length ≤ 140737488351232) (o : Int) :
    PC Try.prog Γ 5 [.agg [.sl 1 (secs s), .sl 2 (wrs w), .int .i64 a, .sl 1 (bys b), .int .i64 o]] (.bool true) := by
  refine pc_by mixed Try.func5 rfl (fun args w => Try.call5 args w) ?_
  have hsm := rsmall_pc Γ s w d.sn d.wn
  have hrt := rright_pc Γ s w d.sn d.wn
  simp -implicitDefEqProofs (disch := omega) [go_sem]
  refine .inl (call_data (shown_pc Γ) (by simp [go_sem]) ?_)
  simp -implicitDefEqProofs (disch := omega) [go_sem]
  refine .inl (call_data hsm (by simp [go_sem, dk]) ?_)
  by_cases h1 : Sm s w
  · simp -implicitDefEqProofs (disch := omega) [go_sem, h1]
    refine .inl (call_data hrt (by simp [go_sem, dk]) ?_)
    by_cases h2 : Rt s w
    · by_cases h3 : 0 ≤ a
      · by_cases h4 : a < 64
        · by_cases h7 : b.length = 128
          · by_cases h5 : 0 ≤ o
            · by_cases h6 : o < 64
              · have hok := dok_of d h1 h2
                have hwn := h1.2.1
                have hn := hok.n
                have k1 := dok_add hok ⟨h3, h4⟩ h7 lb (by omega)
                have kf := flush_ok k1 (ws := w ++ [(a, b)]) (fun p hp => hp)
                have c1 := write_pc Γ s w hok a b hb
                rw [wrote_ok ⟨h3, h4⟩ h7] at c1
                have c2 := read_pc Γ s _ k1 a
                rw [if_pos ⟨h3, h4⟩, std_append, std_one, if_pos rfl] at c2
                have c3 := read_pc Γ s _ k1 o
                rw [if_pos ⟨h5, h6⟩] at c3
                have c4 := read_pc Γ s w hok o
                rw [if_pos ⟨h5, h6⟩] at c4
                have c5 := flushes_pc Γ s _ k1
                have c6 := read_pc Γ _ [] kf o
                rw [if_pos ⟨h5, h6⟩, read_at hn ⟨h5, h6⟩] at c6
                have e6 : std o (std o (s.getD o.toNat []) (w ++ [(a, b)])) [] = std o (s.getD o.toNat []) (w ++ [(a, b)]) := rfl
                rw [e6] at c6
                have l1 : (std o (s.getD o.toNat []) (w ++ [(a, b)])).length = 128 := std_len (get_len hok ⟨h5, h6⟩) k1.wlen
                have l2 : (std o (s.getD o.toNat []) w).length = 128 := std_len (get_len hok ⟨h5, h6⟩) hok.wlen
                have hoth : o ≠ a → std o (s.getD o.toNat []) (w ++ [(a, b)]) = std o (s.getD o.toNat []) w := fun hne => by
                  rw [std_append, std_one, if_neg (fun e => hne e.symm)]
                generalize std o (s.getD o.toNat []) (w ++ [(a, b)]) = r1 at *
                generalize std o (s.getD o.toNat []) w = r2 at *
                have c7 := row_pc Γ b b (by omega) (by omega)
                have c8 := row_pc Γ r1 r1 (by omega) (by omega)
                have c9 := rright_pc Γ s (w ++ [(a, b)]) (by omega) (by simp; omega)
                rw [decide_eq_true (rt_of k1)] at c9
                simp only [decide_true] at c7 c8
                simp -implicitDefEqProofs (disch := omega) [go_sem, h2]
                refine .inl (call_data c1 (by simp [go_sem, dk]) ?_)
                simp -implicitDefEqProofs (disch := omega) [go_sem, dk]
                refine .inl (call_data c2 (by simp [go_sem, dk]) ?_)
                simp -implicitDefEqProofs (disch := omega) [go_sem, dk]
                refine .inl (call_data c3 (by simp [go_sem, dk]) ?_)
                simp -implicitDefEqProofs (disch := omega) [go_sem, dk]
                refine .inl (call_data c4 (by simp [go_sem, dk]) ?_)
                simp -implicitDefEqProofs (disch := omega) [go_sem, dk]
                refine .inl (call_data c5 (by simp [go_sem, dk]) ?_)
                simp -implicitDefEqProofs (disch := omega) [go_sem, dk]
                refine .inl (call_data c6 (by simp [go_sem, dk]) ?_)
                simp -implicitDefEqProofs (disch := omega) [go_sem]
                refine .inl (call_data c7 (by simp [go_sem, dk]) ?_)
                by_cases hao : o = a
                · simp -implicitDefEqProofs (disch := omega) [go_sem, hao]
                  refine .inl (call_data c8 (by simp [go_sem, dk]) ?_)
                  simp -implicitDefEqProofs (disch := omega) [go_sem]
                  refine .inl (call_data c9 (by simp [go_sem, dk]) ?_)
                  simp -implicitDefEqProofs (disch := omega) [go_sem, Try.f5]
                · have e2 := hoth hao
                  subst e2
                  simp -implicitDefEqProofs (disch := omega) [go_sem, hao]
                  refine .inl (call_data c8 (by simp [go_sem, dk]) ?_)
                  simp -implicitDefEqProofs (disch := omega) [go_sem, hao]
                  refine .inl (call_data c8 (by simp [go_sem, dk]) ?_)
                  simp -implicitDefEqProofs (disch := omega) [go_sem]
                  refine .inl (call_data c9 (by simp [go_sem, dk]) ?_)
                  simp -implicitDefEqProofs (disch := omega) [go_sem, Try.f5]
              · simp -implicitDefEqProofs (disch := omega) [go_sem, h2, Try.f5]
            · simp -implicitDefEqProofs (disch := omega) [go_sem, h2, Try.f5]
          · simp -implicitDefEqProofs (disch := omega) [go_sem, h2, Try.f5]
        · simp -implicitDefEqProofs (disch := omega) [go_sem, h2, Try.f5]
      · simp -implicitDefEqProofs (disch := omega) [go_sem, h2, Try.f5]
    · simp -implicitDefEqProofs (disch := omega) [go_sem, h2, Try.f5]
  · simp -implicitDefEqProofs (disch := omega) [go_sem, h1, Try.f5]
theorem law_DiskReads (Γ : Nat → Option (List Data)) {x0 : Data} (a0 : argD Try.prog 8 50 x0) : PC Try.prog Γ 5 [x0] (.bool true) := by
  obtain ⟨ds, rfl, h⟩ := arg_struct Try.underlying50 a0
  obtain ⟨d1, r1, rfl, h1, h⟩ := okF_cons h
  obtain ⟨d2, r2, rfl, h2, h⟩ := okF_cons h
  obtain ⟨d3, r3, rfl, h3, h⟩ := okF_cons h
  obtain ⟨d4, r4, rfl, h4, h⟩ := okF_cons h
  obtain rfl := okF_nil h
  obtain ⟨s, w, d, rfl⟩ := ok_disk h1
  obtain ⟨a, _, _, rfl⟩ := ok_i64 Try.underlying3 h2
  obtain ⟨b, lb, hb, rfl⟩ := ok_bytes Try.underlying26 Try.underlying5 (by kernel_rfl) h3
  obtain ⟨o, _, _, rfl⟩ := ok_i64 Try.underlying3 h4
  exact reads_pc Γ s w d a b lb hb o
end Go.Proofs.Ytlfmgellojjndaa
