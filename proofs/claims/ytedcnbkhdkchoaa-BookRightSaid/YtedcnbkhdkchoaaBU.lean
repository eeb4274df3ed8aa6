/- Books: what is done, by the ops' kinds; Apply. -/
import Derived.Test.YtedcnbkhdkchoaaBT
import Derived.Test.YtedcnbkhdkchoaaBK
namespace Go.Proofs.Ytedcnbkhdkchoaa
open Go.RowKit
set_option linter.unusedVariables false
set_option linter.unusedSimpArgs false
namespace Bk
variable (Γ : Nat → Option (List Data))
def preL (b : Book) (o : Op) : List (Nat × Blk) := (appL b o).drop 1
theorem appL_eq (b : Book) (o : Op) : appL b o = (15, opsMap) :: preL b o := rfl
set_option maxHeartbeats 4000000 in
set_option maxRecDepth 100000 in
theorem deeds_dc (b : Book) (o : Op) : DC Try.prog Γ 50 [.ptr 10 0] (hpL (preL b o)) 79 (fun d0 H1 nx1 => ∃ F R, (∀ x ∈ R, x.1 = 15) ∧ WeakR F (rhoL R) ⟨envL [(0, d0)], H1, nx1, 0, 1⟩ ⟨envL [(0, .mref 15)], hpL (appL b o), 79, 0, 1⟩) := by
  refine dc_by mixed Try.func50 rfl (fun args w => Try.call50 args w) ?_
  simp -implicitDefEqProofs (disch := omega) [go_sem, Try.f50]
  refine ⟨[], [(15, some 80)], by simp, ?_⟩
  apply ren_lists <;> simp -implicitDefEqProofs [go_sem, appL, preL, opsMap]
theorem eff_newAt {f : FuncId} {ds : List D} {H : Nat → Blk} {fr : Nat} {K : D → List Nat → List (Nat × Blk) → Nat → Prop} {d : D} {L : List (Nat × Blk)} (u M : List (Nat × Blk)) (hH : H = hpL L) (hM : Hp.upd (hpL L) u = hpL M) (hD : deadFrom (hpL L) (fr + 64))
    (h : DC Try.prog Γ f ds (hpL L) (fr + 64) fun d0 H1 nx1 => ∃ F R, (∀ x ∈ R, x.1 = fr) ∧ WeakR F (rhoL R) ⟨envL [(0, d0)], H1, nx1, 0, 1⟩ ⟨envL [(0, d)], hpL M, fr + 64, 0, 1⟩)
    (hk : K d (List.range (fr + 64)) u 1) : effC Try.prog Γ f ds H fr K := by
  subst hH
  exact eff_new u M hM hD h hk
theorem effAt (b c : Book) (o : Op) (e : Int) {f : FuncId} {K : D → List Nat → List (Nat × Blk) → Nat → Prop} (h : DC Try.prog Γ f [.ptr 10 0] (hpL (appL b o)) 83 (Ends c b o e))
    {H : Nat → Blk} (hH : H = hpL (appL b o)) (hk : K (.data (.int .i64 e)) (List.range 83) [(10, .blk true [.data (.int .i64 c.next), .data (.sl 6 (sesss c.opn)), .data (.sl 5 (items c.items)), .data (.sl 3 (locks c.locks)), .data (.int .i64 o.kind), .data (.int .i64 o.id), .data (.int .i64 o.link), .data (.int .u32 o.addr), .data (.str o.user), .data (.int .u64 o.inn), .data (.int .u64 o.out), .data (.int .i64 o.cause), .data (.int .i64 o.at_)]), (15, .dead), (5, .dead), (6, .dead), (7, .dead)] 1) :
    effC Try.prog Γ f [.ptr 10 0] H 19 K := by
  subst hH
  refine eff_dc (fr := 19) (d := .data (.int .i64 e)) _ (appM c b o) ?_ ?_ h hk
  · funext g
    by_cases e15 : g = 15
    · subst e15; first | rfl | simp [Hp.upd, Hp.set, appL, appM, hpL, go_sem]
    by_cases e10 : g = 10
    · subst e10; first | rfl | simp [Hp.upd, Hp.set, appL, appM, hpL, go_sem]
    by_cases e7 : g = 7
    · subst e7; first | rfl | simp [Hp.upd, Hp.set, appL, appM, hpL, go_sem]
    by_cases e6 : g = 6
    · subst e6; first | rfl | simp [Hp.upd, Hp.set, appL, appM, hpL, go_sem]
    by_cases e5 : g = 5
    · subst e5; first | rfl | simp [Hp.upd, Hp.set, appL, appM, hpL, go_sem]
    by_cases e2 : g = 2
    · subst e2; first | rfl | simp [Hp.upd, Hp.set, appL, appM, hpL, go_sem]
    by_cases e1 : g = 1
    · subst e1; first | rfl | simp [Hp.upd, Hp.set, appL, appM, hpL, go_sem]
    by_cases e0 : g = 0
    · subst e0; first | rfl | simp [Hp.upd, Hp.set, appL, appM, hpL, go_sem]
    simp [Hp.upd, Hp.set, appL, appM, hpL, e15, e10, e7, e6, e5, e2, e1, e0]
  · intro g hg
    have hg : 83 ≤ g := hg
    have e15 : g ≠ 15 := by omega
    have e10 : g ≠ 10 := by omega
    have e7 : g ≠ 7 := by omega
    have e6 : g ≠ 6 := by omega
    have e5 : g ≠ 5 := by omega
    have e2 : g ≠ 2 := by omega
    have e1 : g ≠ 1 := by omega
    have e0 : g ≠ 0 := by omega
    simp [Hp.upd, Hp.set, appL, hpL, e15, e10, e7, e6, e5, e2, e1, e0]
/-- Such a book, and op, as may come. -/
structure Fine (b : Book) (o : Op) : Prop where
  s : Short b
  n : 0 ≤ b.next ∧ b.next ≤ 1000000000
  l : b.locks.length ≤ 8
  ln : ∀ l ∈ b.locks, -1000000 ≤ l.n ∧ l.n ≤ 1000000
set_option maxHeartbeats 4000000 in
set_option maxRecDepth 100000 in
theorem apply2_pc (b : Book) (o : Op) (h : Fine b o) : PC Try.prog Γ 18 [book b, op o] (out (applyOp b o)) := by
  refine pc_by mixed Try.func18 rfl (fun args w => Try.call18 args w) ?_
  obtain ⟨hs, hn, hl, hln⟩ := h
  have c0 := copied_oc Γ b hs
  unfold bookD sessB itemB lockB at c0
  have c1 := may2_pc Γ o
  have cd := deeds_dc Γ b o
  have hs' := hs
  obtain ⟨s1, s2, s3⟩ := hs'
  simp -implicitDefEqProofs (disch := omega) [go_sem, book, op]
  refine .inr (eff_own3 c0 (by simp [go_sem, book]) ?_)
  simp -implicitDefEqProofs (disch := omega) [go_sem]
  refine side (by kernel_rfl) ?_
  simp -implicitDefEqProofs (disch := omega) [go_sem]
  refine .inl (call_data c1 (by simp [go_sem, op]) ?_)
  by_cases g0 : MayP o
  rotate_left
  · have hr : applyOp b o = (b, 1) := by unfold applyOp; rw [if_pos g0]
    rw [decide_eq_false g0, hr]
    simp -implicitDefEqProofs (disch := omega) [go_sem, out, book, Try.f18]
    refine ⟨_, ⟨_, rfl, frz_aggL (frzL_c ((frz_data _ _ _ _).2 rfl) (frzL_c (fz_sesss (rw := true) (l := b.opn) (by simp [go_sem]) (.inl rfl) rfl) (frzL_c (fz_items (rw := true) (l := b.items) (by simp [go_sem]) (.inl rfl) rfl) (frzL_c (fz_locks (rw := true) (l := b.locks) (by simp [go_sem]) (.inl rfl) rfl) frzL_n))))⟩, ?_⟩
    rfl
  rw [decide_eq_true g0]
  simp -implicitDefEqProofs (disch := omega) [go_sem]
  refine .inr (eff_newAt Γ (L := preL b o) (d := .mref 15) [(15, opsMap)] (appL b o) ?_ ?_ ?_ cd ?_)
  · funext g
    by_cases e10 : g = 10
    · subst e10; first | rfl | simp [Hp.upd, Hp.set, appL, preL, hpL, go_sem]
    by_cases e7 : g = 7
    · subst e7; first | rfl | simp [Hp.upd, Hp.set, appL, preL, hpL, go_sem]
    by_cases e6 : g = 6
    · subst e6; first | rfl | simp [Hp.upd, Hp.set, appL, preL, hpL, go_sem]
    by_cases e5 : g = 5
    · subst e5; first | rfl | simp [Hp.upd, Hp.set, appL, preL, hpL, go_sem]
    by_cases e2 : g = 2
    · subst e2; first | rfl | simp [Hp.upd, Hp.set, appL, preL, hpL, go_sem]
    by_cases e1 : g = 1
    · subst e1; first | rfl | simp [Hp.upd, Hp.set, appL, preL, hpL, go_sem]
    by_cases e0 : g = 0
    · subst e0; first | rfl | simp [Hp.upd, Hp.set, appL, preL, hpL, go_sem]
    simp [Hp.upd, Hp.set, appL, preL, hpL, e10, e7, e6, e5, e2, e1, e0]
  · funext g
    by_cases e15 : g = 15
    · subst e15; first | rfl | simp [Hp.upd, Hp.set, appL, preL, hpL, go_sem]
    by_cases e10 : g = 10
    · subst e10; first | rfl | simp [Hp.upd, Hp.set, appL, preL, hpL, go_sem]
    by_cases e7 : g = 7
    · subst e7; first | rfl | simp [Hp.upd, Hp.set, appL, preL, hpL, go_sem]
    by_cases e6 : g = 6
    · subst e6; first | rfl | simp [Hp.upd, Hp.set, appL, preL, hpL, go_sem]
    by_cases e5 : g = 5
    · subst e5; first | rfl | simp [Hp.upd, Hp.set, appL, preL, hpL, go_sem]
    by_cases e2 : g = 2
    · subst e2; first | rfl | simp [Hp.upd, Hp.set, appL, preL, hpL, go_sem]
    by_cases e1 : g = 1
    · subst e1; first | rfl | simp [Hp.upd, Hp.set, appL, preL, hpL, go_sem]
    by_cases e0 : g = 0
    · subst e0; first | rfl | simp [Hp.upd, Hp.set, appL, preL, hpL, go_sem]
    simp [Hp.upd, Hp.set, appL, preL, hpL, e15, e10, e7, e6, e5, e2, e1, e0]
  · intro g hg
    have hg : 79 ≤ g := hg
    have e15 : g ≠ 15 := by omega
    have e10 : g ≠ 10 := by omega
    have e7 : g ≠ 7 := by omega
    have e6 : g ≠ 6 := by omega
    have e5 : g ≠ 5 := by omega
    have e2 : g ≠ 2 := by omega
    have e1 : g ≠ 1 := by omega
    have e0 : g ≠ 0 := by omega
    simp [Hp.upd, Hp.set, appL, preL, hpL, e15, e10, e7, e6, e5, e2, e1, e0]
  have hkind : o.kind = 1 ∨ o.kind = 2 ∨ o.kind = 3 ∨ o.kind = 4 ∨ o.kind = 5 ∨ o.kind = 6 := by unfold MayP at g0; omega
  rcases hkind with hk | hk | hk | hk | hk | hk
  · have hr : applyOp b o = openedOp b o := by unfold applyOp; rw [if_neg (by simpa using g0), if_pos hk]
    rw [hr]
    simp -implicitDefEqProofs (disch := omega) [go_sem, opsMap, hk]
    refine .inr (effAt Γ b ((openedOp b o).1) o ((openedOp b o).2) (begin_dc Γ b o hs hn) ?_ ?_)
    · funext g
      by_cases e15 : g = 15
      · subst e15; first | rfl | simp [Hp.upd, Hp.set, appL, opsMap, hpL, go_sem]
      by_cases e10 : g = 10
      · subst e10; first | rfl | simp [Hp.upd, Hp.set, appL, opsMap, hpL, go_sem]
      by_cases e7 : g = 7
      · subst e7; first | rfl | simp [Hp.upd, Hp.set, appL, opsMap, hpL, go_sem]
      by_cases e6 : g = 6
      · subst e6; first | rfl | simp [Hp.upd, Hp.set, appL, opsMap, hpL, go_sem]
      by_cases e5 : g = 5
      · subst e5; first | rfl | simp [Hp.upd, Hp.set, appL, opsMap, hpL, go_sem]
      by_cases e2 : g = 2
      · subst e2; first | rfl | simp [Hp.upd, Hp.set, appL, opsMap, hpL, go_sem]
      by_cases e1 : g = 1
      · subst e1; first | rfl | simp [Hp.upd, Hp.set, appL, opsMap, hpL, go_sem]
      by_cases e0 : g = 0
      · subst e0; first | rfl | simp [Hp.upd, Hp.set, appL, opsMap, hpL, go_sem]
      simp [Hp.upd, Hp.set, appL, opsMap, hpL, e15, e10, e7, e6, e5, e2, e1, e0]
    simp -implicitDefEqProofs (disch := omega) [go_sem]
    refine side (by kernel_rfl) ?_
    simp -implicitDefEqProofs (disch := omega) [go_sem, out, book, Try.f18]
  · have hr : applyOp b o = countedOp b o := by unfold applyOp; rw [if_neg (by simpa using g0), if_neg (by omega), if_pos (.inl hk)]
    rw [hr]
    simp -implicitDefEqProofs (disch := omega) [go_sem, opsMap, hk]
    refine .inr (effAt Γ b ((countedOp b o).1) o ((countedOp b o).2) (count_dc Γ b o hk hs) ?_ ?_)
    · funext g
      by_cases e15 : g = 15
      · subst e15; first | rfl | simp [Hp.upd, Hp.set, appL, opsMap, hpL, go_sem]
      by_cases e10 : g = 10
      · subst e10; first | rfl | simp [Hp.upd, Hp.set, appL, opsMap, hpL, go_sem]
      by_cases e7 : g = 7
      · subst e7; first | rfl | simp [Hp.upd, Hp.set, appL, opsMap, hpL, go_sem]
      by_cases e6 : g = 6
      · subst e6; first | rfl | simp [Hp.upd, Hp.set, appL, opsMap, hpL, go_sem]
      by_cases e5 : g = 5
      · subst e5; first | rfl | simp [Hp.upd, Hp.set, appL, opsMap, hpL, go_sem]
      by_cases e2 : g = 2
      · subst e2; first | rfl | simp [Hp.upd, Hp.set, appL, opsMap, hpL, go_sem]
      by_cases e1 : g = 1
      · subst e1; first | rfl | simp [Hp.upd, Hp.set, appL, opsMap, hpL, go_sem]
      by_cases e0 : g = 0
      · subst e0; first | rfl | simp [Hp.upd, Hp.set, appL, opsMap, hpL, go_sem]
      simp [Hp.upd, Hp.set, appL, opsMap, hpL, e15, e10, e7, e6, e5, e2, e1, e0]
    simp -implicitDefEqProofs (disch := omega) [go_sem]
    refine side (by kernel_rfl) ?_
    simp -implicitDefEqProofs (disch := omega) [go_sem, out, book, Try.f18]
  · have hr : applyOp b o = countedOp b o := by unfold applyOp; rw [if_neg (by simpa using g0), if_neg (by omega), if_pos (.inr hk)]
    rw [hr]
    simp -implicitDefEqProofs (disch := omega) [go_sem, opsMap, hk]
    refine .inr (effAt Γ b ((countedOp b o).1) o ((countedOp b o).2) (stop_dc Γ b o hk hs) ?_ ?_)
    · funext g
      by_cases e15 : g = 15
      · subst e15; first | rfl | simp [Hp.upd, Hp.set, appL, opsMap, hpL, go_sem]
      by_cases e10 : g = 10
      · subst e10; first | rfl | simp [Hp.upd, Hp.set, appL, opsMap, hpL, go_sem]
      by_cases e7 : g = 7
      · subst e7; first | rfl | simp [Hp.upd, Hp.set, appL, opsMap, hpL, go_sem]
      by_cases e6 : g = 6
      · subst e6; first | rfl | simp [Hp.upd, Hp.set, appL, opsMap, hpL, go_sem]
      by_cases e5 : g = 5
      · subst e5; first | rfl | simp [Hp.upd, Hp.set, appL, opsMap, hpL, go_sem]
      by_cases e2 : g = 2
      · subst e2; first | rfl | simp [Hp.upd, Hp.set, appL, opsMap, hpL, go_sem]
      by_cases e1 : g = 1
      · subst e1; first | rfl | simp [Hp.upd, Hp.set, appL, opsMap, hpL, go_sem]
      by_cases e0 : g = 0
      · subst e0; first | rfl | simp [Hp.upd, Hp.set, appL, opsMap, hpL, go_sem]
      simp [Hp.upd, Hp.set, appL, opsMap, hpL, e15, e10, e7, e6, e5, e2, e1, e0]
    simp -implicitDefEqProofs (disch := omega) [go_sem]
    refine side (by kernel_rfl) ?_
    simp -implicitDefEqProofs (disch := omega) [go_sem, out, book, Try.f18]
  · have hr : applyOp b o = failedOp b o := by unfold applyOp; rw [if_neg (by simpa using g0), if_neg (by omega), if_neg (by omega), if_pos (.inl hk)]
    rw [hr]
    simp -implicitDefEqProofs (disch := omega) [go_sem, opsMap, hk]
    refine .inr (effAt Γ b ((failedOp b o).1) o ((failedOp b o).2) (fail_dc Γ b o hk hs hl hln) ?_ ?_)
    · funext g
      by_cases e15 : g = 15
      · subst e15; first | rfl | simp [Hp.upd, Hp.set, appL, opsMap, hpL, go_sem]
      by_cases e10 : g = 10
      · subst e10; first | rfl | simp [Hp.upd, Hp.set, appL, opsMap, hpL, go_sem]
      by_cases e7 : g = 7
      · subst e7; first | rfl | simp [Hp.upd, Hp.set, appL, opsMap, hpL, go_sem]
      by_cases e6 : g = 6
      · subst e6; first | rfl | simp [Hp.upd, Hp.set, appL, opsMap, hpL, go_sem]
      by_cases e5 : g = 5
      · subst e5; first | rfl | simp [Hp.upd, Hp.set, appL, opsMap, hpL, go_sem]
      by_cases e2 : g = 2
      · subst e2; first | rfl | simp [Hp.upd, Hp.set, appL, opsMap, hpL, go_sem]
      by_cases e1 : g = 1
      · subst e1; first | rfl | simp [Hp.upd, Hp.set, appL, opsMap, hpL, go_sem]
      by_cases e0 : g = 0
      · subst e0; first | rfl | simp [Hp.upd, Hp.set, appL, opsMap, hpL, go_sem]
      simp [Hp.upd, Hp.set, appL, opsMap, hpL, e15, e10, e7, e6, e5, e2, e1, e0]
    simp -implicitDefEqProofs (disch := omega) [go_sem]
    refine side (by kernel_rfl) ?_
    simp -implicitDefEqProofs (disch := omega) [go_sem, out, book, Try.f18]
  · have hr : applyOp b o = failedOp b o := by unfold applyOp; rw [if_neg (by simpa using g0), if_neg (by omega), if_neg (by omega), if_pos (.inr hk)]
    rw [hr]
    simp -implicitDefEqProofs (disch := omega) [go_sem, opsMap, hk]
    refine .inr (effAt Γ b ((failedOp b o).1) o ((failedOp b o).2) (pass_dc Γ b o hk hs) ?_ ?_)
    · funext g
      by_cases e15 : g = 15
      · subst e15; first | rfl | simp [Hp.upd, Hp.set, appL, opsMap, hpL, go_sem]
      by_cases e10 : g = 10
      · subst e10; first | rfl | simp [Hp.upd, Hp.set, appL, opsMap, hpL, go_sem]
      by_cases e7 : g = 7
      · subst e7; first | rfl | simp [Hp.upd, Hp.set, appL, opsMap, hpL, go_sem]
      by_cases e6 : g = 6
      · subst e6; first | rfl | simp [Hp.upd, Hp.set, appL, opsMap, hpL, go_sem]
      by_cases e5 : g = 5
      · subst e5; first | rfl | simp [Hp.upd, Hp.set, appL, opsMap, hpL, go_sem]
      by_cases e2 : g = 2
      · subst e2; first | rfl | simp [Hp.upd, Hp.set, appL, opsMap, hpL, go_sem]
      by_cases e1 : g = 1
      · subst e1; first | rfl | simp [Hp.upd, Hp.set, appL, opsMap, hpL, go_sem]
      by_cases e0 : g = 0
      · subst e0; first | rfl | simp [Hp.upd, Hp.set, appL, opsMap, hpL, go_sem]
      simp [Hp.upd, Hp.set, appL, opsMap, hpL, e15, e10, e7, e6, e5, e2, e1, e0]
    simp -implicitDefEqProofs (disch := omega) [go_sem]
    refine side (by kernel_rfl) ?_
    simp -implicitDefEqProofs (disch := omega) [go_sem, out, book, Try.f18]
  · have hr : applyOp b o = ({ b with items := kept b b.items }, 0) := by unfold applyOp; rw [if_neg (by simpa using g0), if_neg (by omega), if_neg (by omega), if_neg (by omega)]
    rw [hr]
    simp -implicitDefEqProofs (disch := omega) [go_sem, opsMap, hk]
    refine .inr (effAt Γ b ({ b with items := kept b b.items }) o (0) (trim_dc Γ b o hs) ?_ ?_)
    · funext g
      by_cases e15 : g = 15
      · subst e15; first | rfl | simp [Hp.upd, Hp.set, appL, opsMap, hpL, go_sem]
      by_cases e10 : g = 10
      · subst e10; first | rfl | simp [Hp.upd, Hp.set, appL, opsMap, hpL, go_sem]
      by_cases e7 : g = 7
      · subst e7; first | rfl | simp [Hp.upd, Hp.set, appL, opsMap, hpL, go_sem]
      by_cases e6 : g = 6
      · subst e6; first | rfl | simp [Hp.upd, Hp.set, appL, opsMap, hpL, go_sem]
      by_cases e5 : g = 5
      · subst e5; first | rfl | simp [Hp.upd, Hp.set, appL, opsMap, hpL, go_sem]
      by_cases e2 : g = 2
      · subst e2; first | rfl | simp [Hp.upd, Hp.set, appL, opsMap, hpL, go_sem]
      by_cases e1 : g = 1
      · subst e1; first | rfl | simp [Hp.upd, Hp.set, appL, opsMap, hpL, go_sem]
      by_cases e0 : g = 0
      · subst e0; first | rfl | simp [Hp.upd, Hp.set, appL, opsMap, hpL, go_sem]
      simp [Hp.upd, Hp.set, appL, opsMap, hpL, e15, e10, e7, e6, e5, e2, e1, e0]
    simp -implicitDefEqProofs (disch := omega) [go_sem]
    refine side (by kernel_rfl) ?_
    simp -implicitDefEqProofs (disch := omega) [go_sem, out, book, Try.f18]
end Bk
end Go.Proofs.Ytedcnbkhdkchoaa
