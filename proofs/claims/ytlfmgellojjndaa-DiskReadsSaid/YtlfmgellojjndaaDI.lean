/- Disks: DiskTwice, DiskOrder. -/
import Derived.Test.YtlfmgellojjndaaDH
namespace Go.Proofs.Ytlfmgellojjndaa
open Go.RowKit
set_option linter.unusedVariables false
set_option linter.unusedSimpArgs false
theorem kept_congr {j k : List Bool} : ∀ (w : List Wr) (i : Nat), (∀ n, keepAt j n = keepAt k n) → kept j i w = kept k i w
  | [], _, _ => rfl
  | p :: w, i, h => by simp only [kept, h i, kept_congr w (i + 1) h]
theorem keepAt_long (k : List Bool) (n i : Nat) : keepAt (k ++ List.replicate n false) i = keepAt k i := by
  unfold keepAt
  rw [List.getD_eq_getElem?_getD, List.getD_eq_getElem?_getD, List.getElem?_append]
  split
  · rfl
  · rename_i h
    rw [List.getElem?_eq_none (show k.length ≤ i by omega), List.getElem?_replicate]
    split <;> rfl
theorem bools_cells (l : List Bool) : ∀ x ∈ bools l, x.cells.length = 1 := fun x hx => by
  obtain ⟨b, _, rfl⟩ := List.mem_map.1 hx
  rfl
@[go_sem] theorem flat_bools (l : List Bool) : flat (bools l) = bools l := by
  induction l with
  | nil => rfl
  | cons b l ih => simp only [bools, flat, List.map_cons, List.flatMap_cons] at ih ⊢; rw [ih]; rfl
@[go_sem] theorem bools_cell (l : List Bool) : (∀ x ∈ bools l, x.cell = true) ↔ True := iff_true_intro fun x hx => by
  obtain ⟨b, _, rfl⟩ := List.mem_map.1 hx
  rfl
theorem fz_bools {ok : Bool} {H : Nat → Blk} {g n : Nat} {l : List Bool} {rw : Bool} (hg : H g = .blk rw ((bools l).map D.data)) (hrw : ok = true ∨ rw = false) (hn : l.length = n) : Frz ok H (.ref g 0 n 1) (.sl 1 (bools l)) :=
  frz_ref hg hrw (by rw [bools_length, hn]) (bools_cells l) (by rw [flat_bools])
theorem bools_append (a b : List Bool) : bools (a ++ b) = bools a ++ bools b := by simp [bools]
set_option maxRecDepth 100000 in
theorem twice_pc (Γ : Nat → Option (List Data)) (s : List (List Nat)) (w : List Wr) (d : Din s w) (k j : List Bool) (hk : k.length ≤ 140737488351232) (hj : j.length ≤ 140737488351232) :
    PC Try.prog Γ 7 [dk s w, .sl 1 (bools k), .sl 1 (bools j)] (.bool true) := by
  refine pc_by mixed Try.func7 rfl (fun args w => Try.call7 args w) ?_
  have hsm := rsmall_pc Γ s w d.sn d.wn
  have hrt := rright_pc Γ s w d.sn d.wn
  simp -implicitDefEqProofs (disch := omega) [go_sem, dk]
  refine .inl (call_data (shown_pc Γ) (by simp [go_sem]) ?_)
  simp -implicitDefEqProofs (disch := omega) [go_sem]
  refine .inl (call_data hsm (by simp [go_sem, dk]) ?_)
  by_cases h1 : Sm s w
  · simp -implicitDefEqProofs (disch := omega) [go_sem, h1]
    refine .inl (call_data hrt (by simp [go_sem, dk]) ?_)
    by_cases h2 : Rt s w
    · by_cases h3 : k.length ≤ 100
      · by_cases h4 : j.length ≤ 100
        · have hok := dok_of d h1 h2
          have okc := flush_ok hok (ws := kept k 0 w) (kept_sub k w 0)
          have c1 := crash_pc Γ s w hok k (by omega)
          have c2 := crash_pc Γ _ [] okc j (by omega)
          rw [show kept j 0 [] = [] from rfl, flush_nil] at c2
          have c3 := rsame_pc Γ _ _ _ _ okc okc
          have c4 := flushes_pc Γ _ [] okc
          rw [flush_nil] at c4
          have c5 := crash_pc Γ s w hok (k ++ List.replicate 100 false) (by simp; omega)
          rw [kept_congr w 0 (keepAt_long k 100)] at c5
          have c6 := right_pc Γ _ [] okc
          simp only [and_self, decide_true] at c3
          simp -implicitDefEqProofs (disch := omega) [go_sem, h2]
          refine .inl (call_data c1 (by simp [go_sem, dk]) ?_)
          simp -implicitDefEqProofs (disch := omega) [go_sem, dk]
          refine call_data c2 (by simp [go_sem, dk]) ?_
          simp -implicitDefEqProofs (disch := omega) [go_sem, dk]
          refine call_data c3 (by simp [go_sem, dk]) ?_
          simp -implicitDefEqProofs (disch := omega) [go_sem, dk]
          refine call_data c4 (by simp [go_sem, dk]) ?_
          simp -implicitDefEqProofs (disch := omega) [go_sem, dk]
          refine call_data c3 (by simp [go_sem, dk]) ?_
          simp -implicitDefEqProofs (disch := omega) [go_sem, dk]
          refine call_keep 30 (rw := true) (cells := (bools (k ++ List.replicate 100 false)).map D.data) c5 (by simp [go_sem, bools_append]; rfl) (fun H' hH' => frzL_c ((frz_data _ _ _ _).2 rfl) (frzL_c (fz_bools (rw := false) hH' (.inr rfl) (by simp)) frzL_n)) ?_
          simp -implicitDefEqProofs (disch := omega) [go_sem, dk]
          refine call_data c3 (by simp [go_sem, dk]) ?_
          simp -implicitDefEqProofs (disch := omega) [go_sem, dk]
          refine call_data c6 (by simp [go_sem, dk]) ?_
          simp -implicitDefEqProofs (disch := omega) [go_sem, dk]
          refine side (by kernel_rfl) ?_
          simp -implicitDefEqProofs (disch := omega) [go_sem, Try.f7]
        · simp -implicitDefEqProofs (disch := omega) [go_sem, h2, Try.f7]
      · simp -implicitDefEqProofs (disch := omega) [go_sem, h2, Try.f7]
    · simp -implicitDefEqProofs (disch := omega) [go_sem, h2, Try.f7]
  · simp -implicitDefEqProofs (disch := omega) [go_sem, h1, Try.f7]
theorem law_DiskTwice (Γ : Nat → Option (List Data)) {x0 x1 x2 : Data} (a0 : argD Try.prog 8 25 x0) (a1 : argD Try.prog 8 27 x1) (a2 : argD Try.prog 8 27 x2) : PC Try.prog Γ 7 [x0, x1, x2] (.bool true) := by
  obtain ⟨s, w, d, rfl⟩ := arg_disk a0
  obtain ⟨k, hk, rfl⟩ := arg_bools a1
  obtain ⟨j, hj, rfl⟩ := arg_bools a2
  exact twice_pc Γ s w d k j hk hj
theorem std_append (a : Int) (o : List Nat) (u v : List Wr) : std a o (u ++ v) = std a (std a o u) v := by unfold std; rw [List.foldl_append]
theorem std_one (a : Int) (o : List Nat) (p : Wr) : std a o [p] = if p.1 = a then p.2 else o := rfl
theorem flush_swap {s : List (List Nat)} {w : List Wr} {a b : Int} {x y : List Nat} (h : a ≠ b) : flush s (w ++ [(a, x)] ++ [(b, y)]) = flush s (w ++ [(b, y)] ++ [(a, x)]) := by
  unfold flush
  refine List.map_congr_left fun i _ => ?_
  simp only [std_append, std_one]
  by_cases e1 : a = (i : Int) <;> by_cases e2 : b = (i : Int) <;> simp only [e1, e2, if_true, if_false]
  exact absurd (e1.trans e2.symm) h
theorem wrote_ok {s : List (List Nat)} {w : List Wr} {a : Int} {b : List Nat} (ha : 0 ≤ a ∧ a < 64) (hb : b.length = 128) : wrote s w a b = .tup [dk s (w ++ [(a, b)]), .int .i64 0] := by
  unfold wrote
  rw [if_pos (by simp [wrOk, ha, hb])]
set_option maxHeartbeats 4000000 in
set_option maxRecDepth 100000 in
theorem order_pc (Γ : Nat → Option (List Data)) (s : List (List Nat)) (w : List Wr) (d : Din s w) (a b : Int) (x y : List Nat) (lx : ∀ c ∈ x, c < 256) (ly : ∀ c ∈ y, c < 256) (hx : x.length ≤ 140737488351232) (hy : y.length ≤ 140737488351232) :
    PC Try.prog Γ 6 [.agg [.sl 1 (secs s), .sl 2 (wrs w), .int .i64 a, .int .i64 b, .sl 1 (bys x), .sl 1 (bys y)]] (.bool true) := by
  refine pc_by mixed Try.func6 rfl (fun args w => Try.call6 args w) ?_
  have hsm := rsmall_pc Γ s w d.sn d.wn
  have hrt := rright_pc Γ s w d.sn d.wn
  simp -implicitDefEqProofs (disch := omega) [go_sem]
  refine .inl (call_data (shown_pc Γ) (by simp [go_sem]) ?_)
  simp -implicitDefEqProofs (disch := omega) [go_sem]
  refine .inl (call_data hsm (by simp [go_sem, dk]) ?_)
  by_cases h1 : Sm s w
  · simp -implicitDefEqProofs (disch := omega) [go_sem, h1]
    refine .inl (call_data hrt (by simp [go_sem, dk]) ?_)
    by_cases h2 : Rt s w
    · by_cases h3 : 0 ≤ a
      · by_cases h4 : a < 64
        · by_cases h5 : 0 ≤ b
          · by_cases h6 : b < 64
            · by_cases h7 : x.length = 128
              · by_cases h8 : y.length = 128
                · have hok := dok_of d h1 h2
                  have hwn := h1.2.1
                  have k1 := dok_add hok ⟨h3, h4⟩ h7 lx (by omega)
                  have k2 := dok_add k1 ⟨h5, h6⟩ h8 ly (by simp; omega)
                  have k3 := dok_add hok ⟨h5, h6⟩ h8 ly (by omega)
                  have k4 := dok_add k3 ⟨h3, h4⟩ h7 lx (by simp; omega)
                  have c1 := write_pc Γ s w hok a x hx
                  have c2 := write_pc Γ s _ k1 b y hy
                  have c3 := write_pc Γ s w hok b y hy
                  have c4 := write_pc Γ s _ k3 a x hx
                  rw [wrote_ok ⟨h3, h4⟩ h7] at c1 c4
                  rw [wrote_ok ⟨h5, h6⟩ h8] at c2 c3
                  have c5 := read_pc Γ s _ k2 a
                  rw [if_pos ⟨h3, h4⟩, std_append, std_append, std_one, std_one] at c5
                  simp -implicitDefEqProofs (disch := omega) [go_sem, h2]
                  refine .inl (call_data c1 (by simp [go_sem, dk]) ?_)
                  simp -implicitDefEqProofs (disch := omega) [go_sem, dk]
                  refine .inl (call_data c2 (by simp [go_sem, dk]) ?_)
                  simp -implicitDefEqProofs (disch := omega) [go_sem, dk]
                  refine .inl (call_data c3 (by simp [go_sem, dk]) ?_)
                  simp -implicitDefEqProofs (disch := omega) [go_sem, dk]
                  refine .inl (call_data c4 (by simp [go_sem, dk]) ?_)
                  simp -implicitDefEqProofs (disch := omega) [go_sem, dk]
                  refine .inl (call_data c5 (by simp [go_sem, dk]) ?_)
                  by_cases hab : a = b
                  · have c6 := row_pc Γ y y (by omega) (by omega)
                    simp only [decide_true] at c6
                    simp -implicitDefEqProofs (disch := omega) [go_sem, hab]
                    refine .inl (call_data c6 (by simp [go_sem, dk]) ?_)
                    simp -implicitDefEqProofs (disch := omega) [go_sem, Try.f6]
                  · have hba : ¬ b = a := fun e => hab e.symm
                    have c6 := row_pc Γ x x (by omega) (by omega)
                    simp only [decide_true] at c6
                    have c7 := flushes_pc Γ s _ k2
                    have c8 := flushes_pc Γ s _ k4
                    rw [← flush_swap hab] at c8
                    have kf := flush_ok k2 (ws := w ++ [(a, x)] ++ [(b, y)]) (fun p hp => hp)
                    have c9 := rsame_pc Γ _ _ _ _ kf kf
                    simp only [and_self, decide_true] at c9
                    simp -implicitDefEqProofs (disch := omega) [go_sem, hab, hba]
                    refine call_data c6 (by simp [go_sem, dk]) ?_
                    simp -implicitDefEqProofs (disch := omega) [go_sem]
                    refine call_data c7 (by simp [go_sem, dk]) ?_
                    simp -implicitDefEqProofs (disch := omega) [go_sem, dk]
                    refine call_data c8 (by simp [go_sem, dk]) ?_
                    simp -implicitDefEqProofs (disch := omega) [go_sem, dk]
                    refine call_data c9 (by simp [go_sem, dk]) ?_
                    simp -implicitDefEqProofs (disch := omega) [go_sem, dk]
                    refine side (by kernel_rfl) ?_
                    simp -implicitDefEqProofs (disch := omega) [go_sem, Try.f6]
                · simp -implicitDefEqProofs (disch := omega) [go_sem, h2, Try.f6]
              · simp -implicitDefEqProofs (disch := omega) [go_sem, h2, Try.f6]
            · simp -implicitDefEqProofs (disch := omega) [go_sem, h2, Try.f6]
          · simp -implicitDefEqProofs (disch := omega) [go_sem, h2, Try.f6]
        · simp -implicitDefEqProofs (disch := omega) [go_sem, h2, Try.f6]
      · simp -implicitDefEqProofs (disch := omega) [go_sem, h2, Try.f6]
    · simp -implicitDefEqProofs (disch := omega) [go_sem, h2, Try.f6]
  · simp -implicitDefEqProofs (disch := omega) [go_sem, h1, Try.f6]
theorem law_DiskOrder (Γ : Nat → Option (List Data)) {x0 : Data} (a0 : argD Try.prog 8 53 x0) : PC Try.prog Γ 6 [x0] (.bool true) := by
  obtain ⟨ds, rfl, h⟩ := arg_struct Try.underlying53 a0
  obtain ⟨d1, r1, rfl, h1, h⟩ := okF_cons h
  obtain ⟨d2, r2, rfl, h2, h⟩ := okF_cons h
  obtain ⟨d3, r3, rfl, h3, h⟩ := okF_cons h
  obtain ⟨d4, r4, rfl, h4, h⟩ := okF_cons h
  obtain ⟨d5, r5, rfl, h5, h⟩ := okF_cons h
  obtain rfl := okF_nil h
  obtain ⟨s, w, d, rfl⟩ := ok_disk h1
  obtain ⟨a, _, _, rfl⟩ := ok_i64 Try.underlying3 h2
  obtain ⟨b, _, _, rfl⟩ := ok_i64 Try.underlying3 h3
  obtain ⟨x, lx, hx, rfl⟩ := ok_bytes Try.underlying26 Try.underlying5 (by kernel_rfl) h4
  obtain ⟨y, ly, hy, rfl⟩ := ok_bytes Try.underlying26 Try.underlying5 (by kernel_rfl) h5
  exact order_pc Γ s w d a b x y lx ly hx hy
end Go.Proofs.Ytlfmgellojjndaa
