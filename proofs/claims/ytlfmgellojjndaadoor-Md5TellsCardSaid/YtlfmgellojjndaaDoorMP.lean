import Derived.Test.YtlfmgellojjndaaDoorMO
namespace Go.Proofs.YtlfmgellojjndaaDoor
open Go.RowKit
set_option linter.unusedVariables false
set_option linter.unusedSimpArgs false
theorem sw_bys (s : M5.St) : sw s = ([s.a, s.b, s.c, s.d]).map fun x : Nat => Data.int .u32 (x : Nat) := rfl
theorem sw_u32 : ∀ s t : M5.St, ([s.a, s.b, s.c, s.d] = [t.a, t.b, t.c, t.d]) → s = t := fun s t h => by cases s; cases t; simp at h; simp [h]
set_option maxHeartbeats 1000000 in
set_option maxRecDepth 100000 in
theorem tells_pc (Γ : Nat → Option (List Data)) (hΓ : Tabs Γ) (b : List Nat) (lb : b.length ≤ 140737488351232) (hb : ∀ x ∈ b, x < 256) (s : M5.St) (hs : s.ok) (m : List Nat) (hm : m.length = 64) (bm : ∀ x ∈ m, x < 256) (o : List Nat) (ho : o.length = 16) (bo : ∀ x ∈ o, x < 256) :
    PC Tryd.prog Γ 3 [.agg (.sl 1 (bys b) :: (sw s ++ (bys m ++ bys o)))] (.bool true) := by
  refine pc_by mixed Tryd.func3 rfl (fun args w => Tryd.call3 args w) ?_
  have htm : List.take 64 m = m := List.take_of_length_le (by omega)
  have hto : List.take 16 o = o := List.take_of_length_le (by omega)
  have hlen : (bys m ++ bys o).length = 80 := by simp [bys_length, hm, ho]
  have hdm : ∀ k, 64 ≤ k → List.drop k ((bys m).map D.data) = [] := fun k hk => List.drop_of_length_le (by simp [bys_length, hm, hk])
  have e4 : ∀ k, 4 ≤ k → List.drop k ((sw s).map D.data) = [] := fun k hk => List.drop_of_length_le (by simpa [sw] using hk)
  have o1 : ∀ cs : List D, cs.length = 64 → over cs 0 ((bys m).map D.data) = (bys m).map D.data := fun cs h => over_map _ _ (by simp [bys_length, hm, h])
  have o2 : ∀ cs : List D, cs.length = 16 → over cs 0 ((bys o).map D.data) = (bys o).map D.data := fun cs h => over_map _ _ (by simp [bys_length, ho, h])
  have hx := M5.sum_length b
  have hst : List.take 16 (M5.sum b) = M5.sum b := List.take_of_length_le (by omega)
  have o3 : ∀ cs : List D, cs.length = 16 → over cs 0 ((bys (M5.sum b)).map D.data) = (bys (M5.sum b)).map D.data := fun cs h => over_map _ _ (by simp [bys_length, hx, h])
  by_cases h : 1000 < b.length
  · simp -implicitDefEqProofs (disch := first | omega | (simp only [List.length_cons, List.length_nil])) [go_sem, Tryd.f3, List.take_append, List.drop_append, hm, ho, htm, hto, hlen, hdm, e4, o1, o2]
    refine .inl (call_data (shown_pc Γ hΓ) (by simp [go_sem]) ?_)
    simp -implicitDefEqProofs (disch := omega) [go_sem, Tryd.f3]
  simp -implicitDefEqProofs (disch := first | omega | (simp only [List.length_cons, List.length_nil])) [go_sem, Tryd.f3, List.take_append, List.drop_append, hm, ho, htm, hto, hlen, hdm, e4, o1, o2]
  refine .inl (call_data (shown_pc Γ hΓ) (by simp [go_sem]) ?_)
  simp -implicitDefEqProofs (disch := omega) [go_sem]
  refine .inl (call_data (sum_pc Γ hΓ b (by omega) hb) (by simp [go_sem]) ?_)
  simp -implicitDefEqProofs (disch := first | omega | (simp only [List.length_cons, List.length_nil])) [go_sem, hx, o3]
  refine .inl (call_data (rsum_pc Γ b (by omega) hb) (by simp [go_sem]) ?_)
  simp -implicitDefEqProofs (disch := first | omega | (simp only [List.length_cons, List.length_nil])) [go_sem, hx, o3]
  have hpl := M5.pad_length b
  have hpz := M5.pz_lt b.length
  have bx := M5.sum_lt b
  have hsame := same_pc Γ (M5.sum b) o hx ho bx bo
  have hbok := M5.block_ok s m
  refine call_data (pad_pc Γ b (by omega)) (by simp [go_sem]) ?_
  simp -implicitDefEqProofs (disch := omega) [go_sem]
  refine call_data (rpad_pc Γ b (by omega)) (by simp [go_sem]) ?_
  simp -implicitDefEqProofs (disch := omega) [go_sem]
  refine call_data (row_pc Γ (M5.pad b) (M5.pad b) (by omega) (by omega)) (by simp [go_sem]) ?_
  simp -implicitDefEqProofs (disch := omega) [go_sem]
  refine call_bare [11] (block_pc Γ hΓ s hs m hm bm) (bare_sw _) (fun H' hH' => frzL_c ((frz_data _ _ _ _).2 rfl) (frzL_c (frz_ref (rw := true) (cells := (bys m).map D.data) (by rw [hH' 11 (by simp)]; simp [go_sem]) (.inl rfl) (by rw [bys_length, hm]) (bys_cells _) (by rw [flat_bys])) frzL_n)) ?_
  simp -implicitDefEqProofs (disch := omega) [go_sem]
  refine call_bare [11] (rblock_pc Γ s hs m hm bm) (bare_sw _) (fun H' hH' => frzL_c ((frz_data _ _ _ _).2 rfl) (frzL_c (frz_ref (rw := true) (cells := (bys m).map D.data) (by rw [hH' 11 (by simp)]; simp [go_sem]) (.inl rfl) (by rw [bys_length, hm]) (bys_cells _) (by rw [flat_bys])) frzL_n)) ?_
  simp -implicitDefEqProofs (disch := omega) [go_sem, stD]
  refine eqK_ints arr4 (l := [(M5.block s m).a, (M5.block s m).b, (M5.block s m).c, (M5.block s m).d]) (m := [(M5.block s m).a, (M5.block s m).b, (M5.block s m).c, (M5.block s m).d]) rfl rfl (by simpa [M5.St.ok] using hbok) (by simpa [M5.St.ok] using hbok) ?_
  simp -implicitDefEqProofs (disch := omega) [go_sem, hst]
  refine eqK_ints arr16 hx hx bx bx ?_
  simp -implicitDefEqProofs (disch := omega) [go_sem, hst, hto]
  refine call_data hsame (by simp [go_sem]) ?_
  simp -implicitDefEqProofs (disch := omega) [go_sem, hst, hto]
  refine eqK_ints arr16 hx ho bx bo ?_
  simp -implicitDefEqProofs (disch := omega) [go_sem]
  refine side (by kernel_rfl) ?_
  simp -implicitDefEqProofs (disch := omega) [go_sem, Tryd.f3]
theorem law_Md5Tells (Γ : Nat → Option (List Data)) (hΓ : Tabs Γ) {x0 : Data} (a0 : argD Tryd.prog 8 28 x0) : PC Tryd.prog Γ 3 [x0] (.bool true) := by
  obtain ⟨ds, rfl, h⟩ := arg_struct Tryd.underlying28 a0
  obtain ⟨d1, r1, rfl, h1, h⟩ := okF_cons h
  obtain ⟨d2, r2, rfl, h2, h⟩ := okF_cons h
  obtain ⟨d3, r3, rfl, h3, h⟩ := okF_cons h
  obtain ⟨d4, r4, rfl, h4, h⟩ := okF_cons h
  obtain rfl := okF_nil h
  obtain ⟨b, hb, lb, rfl⟩ := ok_bytes Tryd.underlying22 Tryd.underlying5 (by kernel_rfl) h1
  obtain ⟨q, hq, rfl, bq⟩ := ok_anums (k := .u32) rfl Tryd.underlying24 Tryd.underlying23 h2
  obtain ⟨m, hm, bm, rfl⟩ := ok_abytes Tryd.underlying25 Tryd.underlying5 h3
  obtain ⟨o, ho, bo, rfl⟩ := ok_abytes Tryd.underlying26 Tryd.underlying5 h4
  match q, hq, bq with
  | [q0, q1, q2, q3], _, bq =>
    have bq : q0 < 4294967296 ∧ q1 < 4294967296 ∧ q2 < 4294967296 ∧ q3 < 4294967296 := by simpa [IntKind.bits] using bq
    have := tells_pc Γ hΓ b lb hb ⟨q0, q1, q2, q3⟩ bq m hm bm o ho bo
    simpa [sw, u32] using this
end Go.Proofs.YtlfmgellojjndaaDoor
