/- Books: closed. -/
import Derived.Test.YtjecieidmgkbaaaBF
namespace Go.Proofs.Ytjecieidmgkbaaa
open Go.RowKit
set_option linter.unusedVariables false
set_option linter.unusedSimpArgs false
namespace Bk
def ends (l : List Sess) : List Item := l.map fun s => ⟨3, s.id, s.inn, s.out, 9⟩
def closeOp (b : Book) : Book := { b with opn := [], items := b.items ++ ends b.opn }
theorem ends_succ (l : List Sess) (i : Nat) (h : i < l.length) : ends (l.take (i + 1)) = ends (l.take i) ++ [⟨3, l[i].id, l[i].inn, l[i].out, 9⟩] := by
  rw [List.take_succ_eq_append_getElem h]; unfold ends; rw [List.map_append]; rfl
set_option maxHeartbeats 4000000 in
set_option maxRecDepth 100000 in
theorem close_pc (Γ : Nat → Option (List Data)) (b : Book) (hb : Fits b) (hi : b.items.length + b.opn.length ≤ 1000000) : PC Try.prog Γ 15 [book b] (book (closeOp b)) := by
  refine pc_by mixed Try.func15 rfl (fun args w => Try.call15 args w) ?_
  simp -implicitDefEqProofs (disch := omega) [go_sem, book]
  refine loop_ren (σ := { i : Nat // i ≤ b.opn.length }) (fun i => ⟨envL [(1, .ptr 0 0), (2, .ptr 1 0), (3, .ptr 2 0), (4, .data (.int .i64 i.1))], hpL [(0, .blk true [.data (.int .i64 b.next), .data (.sl 6 (sesss b.opn)), .data (.sl 5 (items b.items)), .data (.sl 3 (locks b.locks))]), (1, .blk true [.data (.int .i64 0), .emp 0, .emp 0, .emp 0]), (2, .blk true [.data (.int .i64 b.next), .data (.sl 6 (sesss b.opn)), .data (.sl 5 (items (b.items ++ ends (b.opn.take i.1)))), .data (.sl 3 (locks b.locks))])], 3, 0, 30⟩) (fun i => b.opn.length - i.1) ⟨0, by omega⟩ [] (rhoL [(0, some 0), (1, some 1), (2, some 3)]) ?_ ?_
  · apply ren_lists <;> simp -implicitDefEqProofs [go_sem, ends]
  rintro ⟨i, hi2⟩
  by_cases h : i < b.opn.length
  · have hs := ends_succ b.opn i h
    have hw := with_pc Γ { b with items := b.items ++ ends (b.opn.take i) } (by simp [ends]; omega) ⟨3, b.opn[i].id, b.opn[i].inn, b.opn[i].out, 9⟩
    simp -implicitDefEqProofs (disch := omega) [go_sem, sess_cut b.opn i h]
    refine .inl (call_data hw (by simp [go_sem, book, item]) ?_)
    simp -implicitDefEqProofs (disch := omega) [go_sem, book, withLine]
    refine next_ren ⟨i + 1, by omega⟩ (by simp only; omega) [] (rhoL [(0, some 0), (1, some 1), (2, some 2)]) ?_
    apply ren_lists <;> simp -implicitDefEqProofs [go_sem, hs]
  have hi3 : i = b.opn.length := by omega
  subst hi3
  simp -implicitDefEqProofs (disch := omega) [go_sem, closeOp, book, Try.results15, List.take_length]
  refine ⟨_, ⟨_, rfl, frz_aggL (frzL_c ((frz_data _ _ _ _).2 rfl) (frzL_c (.emp _ 6) (frzL_c ((frz_data _ _ _ _).2 rfl) (frzL_c ((frz_data _ _ _ _).2 rfl) frzL_n))))⟩, ?_⟩
  rfl
end Bk
end Go.Proofs.Ytjecieidmgkbaaa
