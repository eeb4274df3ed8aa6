/- Books: the program's Close. -/
import Derived.Test.YtedcnbkhdkchoaaBU
namespace Go.Proofs.Ytedcnbkhdkchoaa
open Go.RowKit
set_option linter.unusedVariables false
set_option linter.unusedSimpArgs false
namespace Bk
variable (Γ : Nat → Option (List Data))
/-- What closes a session. -/
def clOp (s : Sess) : Op := ⟨3, s.id, 0, 0, s.user, s.inn, s.out, 9, 0⟩
/-- A book of which so many sessions are closed. -/
noncomputable def closeAt (b : Book) : Nat → Book
  | 0 => b
  | i + 1 => (applyOp (closeAt b i) (clOp (b.opn.getD i default))).1
set_option maxHeartbeats 4000000 in
set_option maxRecDepth 100000 in
theorem close2_pc (b : Book) (hs : Short b) (hF : ∀ i, i < b.opn.length → Fine (closeAt b i) (clOp (b.opn.getD i default))) : PC Try.prog Γ 21 [book b] (book (closeAt b b.opn.length)) := by
  refine pc_by mixed Try.func21 rfl (fun args w => Try.call21 args w) ?_
  have c0 := copied_oc Γ b hs
  unfold bookD sessB itemB lockB at c0
  obtain ⟨s1, s2, s3⟩ := hs
  simp -implicitDefEqProofs (disch := omega) [go_sem, book]
  refine .inr (dc_own [] (by simp) c0 (frzL_c ((frz_data _ _ _ _).2 rfl) frzL_n) ?_)
  simp -implicitDefEqProofs (disch := omega) [go_sem]
  refine loop_ren (σ := { i : Nat // i ≤ b.opn.length }) (fun i => ⟨envL [(1, .ptr 0 0), (2, .ptr 1 0), (3, .ptr 2 0), (9, .data (.sl 6 (sesss b.opn))), (10, .data (.int .i64 b.opn.length)), (11, .data (.int .i64 i.1))], hpL [(0, .blk true [.data (.int .i64 b.next), .data (.sl 6 (sesss b.opn)), .data (.sl 5 (items b.items)), .data (.sl 3 (locks b.locks))]), (1, .blk true [.data (.int .i64 0), .emp 0, .emp 0, .emp 0]), (2, .blk true [.data (.int .i64 (closeAt b i.1).next), .data (.sl 6 (sesss (closeAt b i.1).opn)), .data (.sl 5 (items (closeAt b i.1).items)), .data (.sl 3 (locks (closeAt b i.1).locks))])], 3, 0, 31⟩) (fun i => b.opn.length - i.1) ⟨0, by omega⟩ [3, 4, 5] (rhoL [(0, some 0), (1, some 1), (2, some 6)]) ?_ ?_
  · apply ren_lists <;> simp -implicitDefEqProofs [go_sem, closeAt]
    exact ⟨fz_sesss (rw := false) (l := b.opn) (by simp [go_sem, fz]) (.inr rfl) rfl, fz_items (rw := false) (l := b.items) (by simp [go_sem, fz]) (.inr rfl) rfl, fz_locks (rw := false) (l := b.locks) (by simp [go_sem, fz]) (.inr rfl) rfl⟩
  rintro ⟨i, hi⟩
  by_cases h : i < b.opn.length
  · have hgd : b.opn.getD i default = b.opn[i] := by rw [List.getD_eq_getElem?_getD, List.getElem?_eq_getElem h]; rfl
    have ha := apply2_pc Γ (closeAt b i) (clOp (b.opn.getD i default)) (hF i h)
    have hc : closeAt b (i + 1) = (applyOp (closeAt b i) (clOp (b.opn.getD i default))).1 := rfl
    unfold out at ha
    rw [← hc, hgd] at ha
    generalize (applyOp (closeAt b i) (clOp b.opn[i])).2 = e at ha
    simp -implicitDefEqProofs (disch := omega) [go_sem]
    refine .inl (call_data ha (by simp [go_sem, book, op, clOp]) ?_)
    simp -implicitDefEqProofs (disch := omega) [go_sem, book]
    refine next_ren ⟨i + 1, by omega⟩ (by simp only; omega) [] (rhoL [(0, some 0), (1, some 1), (2, some 2)]) ?_
    apply ren_lists <;> simp -implicitDefEqProofs [go_sem]
  obtain rfl : i = b.opn.length := by omega
  simp -implicitDefEqProofs (disch := omega) [go_sem, book, Try.results21]
end Bk
end Go.Proofs.Ytedcnbkhdkchoaa
