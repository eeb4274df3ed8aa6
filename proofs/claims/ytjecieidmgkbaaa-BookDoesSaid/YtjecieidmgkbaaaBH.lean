/- Books: what an operation does. -/
import Derived.Test.YtjecieidmgkbaaaBG
namespace Go.Proofs.Ytjecieidmgkbaaa
open Go.RowKit
set_option linter.unusedVariables false
set_option linter.unusedSimpArgs false
namespace Bk
def kept (b : Book) (l : List Item) : List Item := l.filter fun x => decide (0 ≤ ofId b x.id)
theorem kept_succ (b : Book) (i : Nat) (h : i < b.items.length) : kept b (b.items.take (i + 1)) = kept b (b.items.take i) ++ (if 0 ≤ ofId b b.items[i].id then [b.items[i]] else []) := by
  rw [List.take_succ_eq_append_getElem h]
  unfold kept
  rw [List.filter_append]
  by_cases g : 0 ≤ ofId b b.items[i].id <;> simp [g]
open Classical in
noncomputable def applyOp (b : Book) (o : Op) : Book × Int :=
  if ¬ MayP o then (b, 1)
  else if o.kind = 1 then openedOp b o
  else if o.kind = 2 ∨ o.kind = 3 then countedOp b o
  else if o.kind = 4 ∨ o.kind = 5 then failedOp b o
  else ({ b with items := kept b b.items }, 0)
set_option maxHeartbeats 4000000 in
set_option maxRecDepth 100000 in
theorem apply_pc (Γ : Nat → Option (List Data)) (b : Book) (o : Op) (hb : Fits b) (h0 : 0 ≤ b.next ∧ b.next ≤ 1000000000) (hi : b.items.length ≤ 1000000) (ho : b.opn.length ≤ 1000000) (hl : b.locks.length ≤ 1000000) (hn0 : ∀ l ∈ b.locks, -1000000 ≤ l.n ∧ l.n ≤ 1000000) (hu : o.user.size ≤ 9223372036854775807) : PC Try.prog Γ 12 [book b, op o] (out (applyOp b o)) := by
  refine pc_by mixed Try.func12 rfl (fun args w => Try.call12 args w) ?_
  have c0 := may_pc Γ o hu
  have c1 := opened_pc Γ b o hb h0
  have c2 := counted_pc Γ b o hb hi ho
  have c3 := failedOp_pc Γ b o hb hl hn0
  have c4 := fun id => of_pc Γ b hb id
  simp -implicitDefEqProofs (disch := omega) [go_sem, book, op]
  refine .inl (call_data c0 (by simp [go_sem, op]) ?_)
  by_cases g0 : MayP o
  rotate_left
  · have hr : applyOp b o = (b, 1) := by unfold applyOp; rw [if_pos g0]
    simp -implicitDefEqProofs (disch := omega) [go_sem, g0, hr, out, book, Try.results12]
  by_cases g1 : o.kind = 1
  · have hr : applyOp b o = openedOp b o := by unfold applyOp; rw [if_neg (by simpa using g0), if_pos g1]
    simp -implicitDefEqProofs (disch := omega) [go_sem, g0, g1]
    refine .inl (call_data c1 (by simp [go_sem, book, op, g1]) ?_)
    simp -implicitDefEqProofs (disch := omega) [go_sem, hr, out, book, Try.results12]
  by_cases g2 : o.kind = 2
  · have hr : applyOp b o = countedOp b o := by unfold applyOp; rw [if_neg (by simpa using g0), if_neg g1, if_pos (.inl g2)]
    simp -implicitDefEqProofs (disch := omega) [go_sem, g0, g2]
    refine .inl (call_data c2 (by simp [go_sem, book, op, g2]) ?_)
    simp -implicitDefEqProofs (disch := omega) [go_sem, hr, out, book, Try.results12]
  by_cases g3 : o.kind = 3
  · have hr : applyOp b o = countedOp b o := by unfold applyOp; rw [if_neg (by simpa using g0), if_neg g1, if_pos (.inr g3)]
    simp -implicitDefEqProofs (disch := omega) [go_sem, g0, g3]
    refine .inl (call_data c2 (by simp [go_sem, book, op, g3]) ?_)
    simp -implicitDefEqProofs (disch := omega) [go_sem, hr, out, book, Try.results12]
  by_cases g4 : o.kind = 4
  · have hr : applyOp b o = failedOp b o := by unfold applyOp; rw [if_neg (by simpa using g0), if_neg g1, if_neg (by omega), if_pos (.inl g4)]
    simp -implicitDefEqProofs (disch := omega) [go_sem, g0, g4]
    refine .inl (call_data c3 (by simp [go_sem, book, op, g4]) ?_)
    simp -implicitDefEqProofs (disch := omega) [go_sem, hr, out, book, Try.results12]
  by_cases g5 : o.kind = 5
  · have hr : applyOp b o = failedOp b o := by unfold applyOp; rw [if_neg (by simpa using g0), if_neg g1, if_neg (by omega), if_pos (.inr g5)]
    simp -implicitDefEqProofs (disch := omega) [go_sem, g0, g5]
    refine .inl (call_data c3 (by simp [go_sem, book, op, g5]) ?_)
    simp -implicitDefEqProofs (disch := omega) [go_sem, hr, out, book, Try.results12]
  have hr : applyOp b o = ({ b with items := kept b b.items }, 0) := by unfold applyOp; rw [if_neg (by simpa using g0), if_neg g1, if_neg (by omega), if_neg (by omega)]
  obtain ⟨bo, bi, bl, -, -⟩ := hb
  simp -implicitDefEqProofs (disch := omega) [go_sem, g0, g1, g2, g3, g4, g5]
  refine loop_ren (σ := { i : Nat // i ≤ b.items.length }) (fun i => ⟨envL [(2, .ptr 0 0), (4, .ptr 2 0), (7, .ptr 3 0), (8, .data (.int .i64 i.1))], hpL [(0, .blk true [.data (.int .i64 b.next), .data (.sl 6 (sesss b.opn)), .data (.sl 5 (items b.items)), .data (.sl 3 (locks b.locks))]), (1, .blk true [.data (.int .i64 o.kind), .data (.int .i64 o.id), .data (.int .i64 o.link), .data (.int .u32 o.addr), .data (.str o.user), .data (.int .u64 o.inn), .data (.int .u64 o.out), .data (.int .i64 o.cause), .data (.int .i64 o.at_)]), (2, .blk true [.data (.int .i64 0), .emp 0, .emp 0, .emp 0]), (3, .blk true [.data (.int .i64 b.next), .data (.sl 6 (sesss b.opn)), .ref 4 0 (kept b (b.items.take i.1)).length 5, .data (.sl 3 (locks b.locks))]), (4, .blk true ((flat (items (kept b (b.items.take i.1)))).map .data))], 5, 0, 68⟩) (fun i => b.items.length - i.1) ⟨0, by omega⟩ [] (rhoL [(0, some 0), (1, some 1), (2, some 2), (3, some 22), (4, none)]) ?_ ?_
  · apply ren_lists <;> simp -implicitDefEqProofs [go_sem, kept, items, flat]
  rintro ⟨i, hi2⟩
  by_cases h : i < b.items.length
  · have hs := kept_succ b i h
    have hkl : (kept b (b.items.take i)).length ≤ i := by unfold kept; exact Nat.le_trans (List.length_filter_le _ _) (by simp; omega)
    simp -implicitDefEqProofs (disch := omega) [go_sem]
    refine .inl (call_data (c4 b.items[i].id) (by simp [go_sem, book]) ?_)
    by_cases g : 0 ≤ ofId b b.items[i].id
    · rw [if_pos g] at hs
      simp -implicitDefEqProofs (disch := omega) [go_sem, g]
      refine side (by kernel_rfl) ?_
      simp -implicitDefEqProofs (disch := omega) [go_sem, g]
      refine side (by kernel_rfl) ?_
      simp -implicitDefEqProofs (disch := omega) [go_sem]
      refine next_ren ⟨i + 1, by omega⟩ (by simp only; omega) [] (rhoL [(0, some 0), (1, some 1), (2, some 2), (3, some 3), (4, some 27)]) ?_
      apply ren_lists <;> simp -implicitDefEqProofs [go_sem, hs, ← items_append, flat_item1]
      exact renCells_plain rfl (by simp [plainD])
    · rw [if_neg g, List.append_nil] at hs
      simp -implicitDefEqProofs (disch := omega) [go_sem, g]
      refine side (by kernel_rfl) ?_
      simp -implicitDefEqProofs (disch := omega) [go_sem, g]
      refine next_ren ⟨i + 1, by omega⟩ (by simp only; omega) [] (rhoL [(0, some 0), (1, some 1), (2, some 2), (3, some 3), (4, some 4)]) ?_
      apply ren_lists <;> simp -implicitDefEqProofs [go_sem, hs]
  have hi3 : i = b.items.length := by omega
  subst hi3
  simp -implicitDefEqProofs (disch := omega) [go_sem, hr, out, book, Try.results12, List.take_length]
  refine ⟨_, ⟨_, rfl, frz_aggL (frzL_c ((frz_data _ _ _ _).2 rfl) (frzL_c ((frz_data _ _ _ _).2 rfl) (frzL_c (fz_items (rw := true) (l := kept b b.items) (by simp [go_sem]) (.inl rfl) (by simp)) (frzL_c ((frz_data _ _ _ _).2 rfl) frzL_n))))⟩, ?_⟩
  rfl
end Bk
end Go.Proofs.Ytjecieidmgkbaaa
