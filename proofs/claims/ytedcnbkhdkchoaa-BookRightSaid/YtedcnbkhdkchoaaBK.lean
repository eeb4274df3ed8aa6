/- Books: the program's rows held against each other; its books that are the same; ops that may be done; the address that is free. -/
import Derived.Test.YtedcnbkhdkchoaaBJ
import Derived.Test.YtedcnbkhdkchoaaBD
namespace Go.Proofs.Ytedcnbkhdkchoaa
open Go.RowKit
set_option linter.unusedVariables false
set_option linter.unusedSimpArgs false
namespace Bk
variable (Γ : Nat → Option (List Data))
set_option maxHeartbeats 1000000 in
theorem eqSess_pc (a b : List Sess) (ha : a.length ≤ 140737488351232) (hb : b.length ≤ 140737488351232) (ta : ∀ s ∈ a, s.Ty) (tb : ∀ s ∈ b, s.Ty) : PC Try.prog Γ 77 [.sl 6 (sesss a), .sl 6 (sesss b)] (.bool (decide (a = b))) := by
  refine pc_by mixed Try.func77 rfl (fun args w => Try.call77 args w) ?_
  by_cases g1 : a.length = b.length
  rotate_left
  · have hno : ¬ a = b := fun e => g1 (by rw [e])
    simp -implicitDefEqProofs (disch := omega) [go_sem, hno, Try.results77]
  simp -implicitDefEqProofs (disch := omega) [go_sem]
  refine loop_ren (σ := { i : Nat // i ≤ a.length ∧ ∀ (j : Nat) (h : j < a.length) (h2 : j < b.length), j < i → a[j] = b[j] }) (fun i => ⟨envL [(0, .data (.sl 6 (sesss a))), (1, .data (.sl 6 (sesss b))), (12, .data (.int .i64 a.length)), (13, .data (.int .i64 i.1))], hpL [], 0, 0, 26⟩) (fun i => a.length - i.1) ⟨0, by omega, by omega⟩ [] (rhoL []) ?_ ?_
  · apply ren_lists <;> simp -implicitDefEqProofs [go_sem, g1]
  rintro ⟨i, hi, hall⟩
  by_cases h : i < a.length
  · have h2 : i < b.length := by omega
    simp -implicitDefEqProofs (disch := omega) [go_sem]
    refine eqK_sess (ta _ (List.getElem_mem h)) (tb _ (List.getElem_mem h2)) ?_
    by_cases he : a[i] = b[i]
    · simp -implicitDefEqProofs (disch := omega) [go_sem, he]
      refine side (by kernel_rfl) ?_
      simp -implicitDefEqProofs (disch := omega) [go_sem]
      refine next_ren ⟨i + 1, by omega, fun j hj hj2 hl => if e : j = i then by subst e; exact he else hall j hj hj2 (by omega)⟩ (by simp only; omega) [] (rhoL []) ?_
      apply ren_lists <;> simp -implicitDefEqProofs [go_sem]
    · have hno : ¬ a = b := fun e => he (by subst e; rfl)
      simp -implicitDefEqProofs (disch := omega) [go_sem, he]
      refine side (by kernel_rfl) ?_
      simp -implicitDefEqProofs (disch := omega) [go_sem, hno, Try.results77]
  have e0 : a = b := List.ext_getElem g1 fun j h1 h2 => hall j h1 h2 (by omega)
  simp -implicitDefEqProofs (disch := omega) [go_sem, e0, Try.results77]
set_option maxHeartbeats 1000000 in
theorem eqItem_pc (a b : List Item) (ha : a.length ≤ 140737488351232) (hb : b.length ≤ 140737488351232) (ta : ∀ s ∈ a, s.Ty) (tb : ∀ s ∈ b, s.Ty) : PC Try.prog Γ 78 [.sl 5 (items a), .sl 5 (items b)] (.bool (decide (a = b))) := by
  refine pc_by mixed Try.func78 rfl (fun args w => Try.call78 args w) ?_
  by_cases g1 : a.length = b.length
  rotate_left
  · have hno : ¬ a = b := fun e => g1 (by rw [e])
    simp -implicitDefEqProofs (disch := omega) [go_sem, hno, Try.results78]
  simp -implicitDefEqProofs (disch := omega) [go_sem]
  refine loop_ren (σ := { i : Nat // i ≤ a.length ∧ ∀ (j : Nat) (h : j < a.length) (h2 : j < b.length), j < i → a[j] = b[j] }) (fun i => ⟨envL [(0, .data (.sl 5 (items a))), (1, .data (.sl 5 (items b))), (12, .data (.int .i64 a.length)), (13, .data (.int .i64 i.1))], hpL [], 0, 0, 26⟩) (fun i => a.length - i.1) ⟨0, by omega, by omega⟩ [] (rhoL []) ?_ ?_
  · apply ren_lists <;> simp -implicitDefEqProofs [go_sem, g1]
  rintro ⟨i, hi, hall⟩
  by_cases h : i < a.length
  · have h2 : i < b.length := by omega
    simp -implicitDefEqProofs (disch := omega) [go_sem]
    refine eqK_item (ta _ (List.getElem_mem h)) (tb _ (List.getElem_mem h2)) ?_
    by_cases he : a[i] = b[i]
    · simp -implicitDefEqProofs (disch := omega) [go_sem, he]
      refine side (by kernel_rfl) ?_
      simp -implicitDefEqProofs (disch := omega) [go_sem]
      refine next_ren ⟨i + 1, by omega, fun j hj hj2 hl => if e : j = i then by subst e; exact he else hall j hj hj2 (by omega)⟩ (by simp only; omega) [] (rhoL []) ?_
      apply ren_lists <;> simp -implicitDefEqProofs [go_sem]
    · have hno : ¬ a = b := fun e => he (by subst e; rfl)
      simp -implicitDefEqProofs (disch := omega) [go_sem, he]
      refine side (by kernel_rfl) ?_
      simp -implicitDefEqProofs (disch := omega) [go_sem, hno, Try.results78]
  have e0 : a = b := List.ext_getElem g1 fun j h1 h2 => hall j h1 h2 (by omega)
  simp -implicitDefEqProofs (disch := omega) [go_sem, e0, Try.results78]
set_option maxHeartbeats 1000000 in
theorem eqLock_pc (a b : List Lock) (ha : a.length ≤ 140737488351232) (hb : b.length ≤ 140737488351232) (ta : ∀ s ∈ a, s.Ty) (tb : ∀ s ∈ b, s.Ty) : PC Try.prog Γ 79 [.sl 3 (locks a), .sl 3 (locks b)] (.bool (decide (a = b))) := by
  refine pc_by mixed Try.func79 rfl (fun args w => Try.call79 args w) ?_
  by_cases g1 : a.length = b.length
  rotate_left
  · have hno : ¬ a = b := fun e => g1 (by rw [e])
    simp -implicitDefEqProofs (disch := omega) [go_sem, hno, Try.results79]
  simp -implicitDefEqProofs (disch := omega) [go_sem]
  refine loop_ren (σ := { i : Nat // i ≤ a.length ∧ ∀ (j : Nat) (h : j < a.length) (h2 : j < b.length), j < i → a[j] = b[j] }) (fun i => ⟨envL [(0, .data (.sl 3 (locks a))), (1, .data (.sl 3 (locks b))), (12, .data (.int .i64 a.length)), (13, .data (.int .i64 i.1))], hpL [], 0, 0, 26⟩) (fun i => a.length - i.1) ⟨0, by omega, by omega⟩ [] (rhoL []) ?_ ?_
  · apply ren_lists <;> simp -implicitDefEqProofs [go_sem, g1]
  rintro ⟨i, hi, hall⟩
  by_cases h : i < a.length
  · have h2 : i < b.length := by omega
    simp -implicitDefEqProofs (disch := omega) [go_sem]
    refine eqK_lock (ta _ (List.getElem_mem h)) (tb _ (List.getElem_mem h2)) ?_
    by_cases he : a[i] = b[i]
    · simp -implicitDefEqProofs (disch := omega) [go_sem, he]
      refine side (by kernel_rfl) ?_
      simp -implicitDefEqProofs (disch := omega) [go_sem]
      refine next_ren ⟨i + 1, by omega, fun j hj hj2 hl => if e : j = i then by subst e; exact he else hall j hj hj2 (by omega)⟩ (by simp only; omega) [] (rhoL []) ?_
      apply ren_lists <;> simp -implicitDefEqProofs [go_sem]
    · have hno : ¬ a = b := fun e => he (by subst e; rfl)
      simp -implicitDefEqProofs (disch := omega) [go_sem, he]
      refine side (by kernel_rfl) ?_
      simp -implicitDefEqProofs (disch := omega) [go_sem, hno, Try.results79]
  have e0 : a = b := List.ext_getElem g1 fun j h1 h2 => hall j h1 h2 (by omega)
  simp -implicitDefEqProofs (disch := omega) [go_sem, e0, Try.results79]
set_option maxHeartbeats 1000000 in
theorem same2_pc (a b : Book) (ha : Fits a) (hb : Fits b) (ta : a.Ty) (tb : b.Ty) : PC Try.prog Γ 43 [book a, book b] (.bool (decide (a = b))) := by
  refine pc_by mixed Try.func43 rfl (fun args w => Try.call43 args w) ?_
  have c1 := eqSess_pc Γ a.opn b.opn ha.o hb.o ta.o tb.o
  have c2 := eqItem_pc Γ a.items b.items ha.i hb.i ta.i tb.i
  have c3 := eqLock_pc Γ a.locks b.locks ha.l hb.l ta.l tb.l
  by_cases g0 : a.next = b.next
  rotate_left
  · have hno : ¬ a = b := fun e => g0 (by rw [e])
    simp -implicitDefEqProofs (disch := omega) [go_sem, book, g0, hno, Try.f43]
  simp -implicitDefEqProofs (disch := omega) [go_sem, book, g0]
  refine .inl (call_data c1 (by simp [go_sem]) ?_)
  by_cases g1 : a.opn = b.opn
  rotate_left
  · have hno : ¬ a = b := fun e => g1 (by rw [e])
    simp -implicitDefEqProofs (disch := omega) [go_sem, g1, hno, Try.f43]
  simp -implicitDefEqProofs (disch := omega) [go_sem, g1]
  refine .inl (call_data c2 (by simp [go_sem]) ?_)
  by_cases g2 : a.items = b.items
  rotate_left
  · have hno : ¬ a = b := fun e => g2 (by rw [e])
    simp -implicitDefEqProofs (disch := omega) [go_sem, g2, hno, Try.f43]
  simp -implicitDefEqProofs (disch := omega) [go_sem, g2]
  refine .inl (call_data c3 (by simp [go_sem]) ?_)
  by_cases g3 : a.locks = b.locks
  rotate_left
  · have hno : ¬ a = b := fun e => g3 (by rw [e])
    simp -implicitDefEqProofs (disch := omega) [go_sem, g3, hno, Try.f43]
  have hyes : a = b := by
    cases a; cases b
    simp only at g0 g1 g2 g3
    subst g0; subst g1; subst g2; subst g3
    rfl
  simp -implicitDefEqProofs (disch := omega) [go_sem, hyes, Try.f43]
set_option maxHeartbeats 1000000 in
theorem may2_pc (o : Op) : PC Try.prog Γ 44 [op o] (.bool (decide (MayP o))) := by
  refine pc_by mixed Try.func44 rfl (fun args w => Try.call44 args w) ?_
  have c0 := isFrom_pc Γ o.kind 1 6
  have c1 := isFrom_pc Γ o.id 0 1000000000
  have c2 := isLink_pc Γ o.link
  have c3 := isFrom_pc Γ o.at_ 0 1000000000
  have c4 := isFrom_pc Γ o.cause 0 255
  have c5 := isUser_pc Γ o.user
  simp -implicitDefEqProofs (disch := omega) [go_sem, op]
  refine .inl (call_data c0 (by simp [go_sem]) ?_)
  by_cases g0 : 1 ≤ o.kind ∧ o.kind ≤ 6
  rotate_left
  · have hno : ¬ MayP o := fun hk => by unfold MayP at hk; omega
    simp -implicitDefEqProofs (disch := omega) [go_sem, decide_eq_false g0, decide_eq_false hno, Try.f44]
  rw [decide_eq_true g0]
  simp -implicitDefEqProofs (disch := omega) [go_sem]
  refine .inl (call_data c1 (by simp [go_sem]) ?_)
  by_cases g1 : 0 ≤ o.id ∧ o.id ≤ 1000000000
  rotate_left
  · have hno : ¬ MayP o := fun hk => by unfold MayP at hk; omega
    simp -implicitDefEqProofs (disch := omega) [go_sem, decide_eq_false g1, decide_eq_false hno, Try.f44]
  rw [decide_eq_true g1]
  simp -implicitDefEqProofs (disch := omega) [go_sem]
  refine .inl (call_data c2 (by simp [go_sem]) ?_)
  by_cases g2 : 0 ≤ o.link ∧ o.link ≤ 7
  rotate_left
  · have hno : ¬ MayP o := fun hk => by unfold MayP at hk; omega
    simp -implicitDefEqProofs (disch := omega) [go_sem, decide_eq_false g2, decide_eq_false hno, Try.f44]
  rw [decide_eq_true g2]
  simp -implicitDefEqProofs (disch := omega) [go_sem]
  refine .inl (call_data c3 (by simp [go_sem]) ?_)
  by_cases g3 : 0 ≤ o.at_ ∧ o.at_ ≤ 1000000000
  rotate_left
  · have hno : ¬ MayP o := fun hk => by unfold MayP at hk; omega
    simp -implicitDefEqProofs (disch := omega) [go_sem, decide_eq_false g3, decide_eq_false hno, Try.f44]
  rw [decide_eq_true g3]
  simp -implicitDefEqProofs (disch := omega) [go_sem]
  refine .inl (call_data c4 (by simp [go_sem]) ?_)
  by_cases g4 : 0 ≤ o.cause ∧ o.cause ≤ 255
  rotate_left
  · have hno : ¬ MayP o := fun hk => by unfold MayP at hk; omega
    simp -implicitDefEqProofs (disch := omega) [go_sem, decide_eq_false g4, decide_eq_false hno, Try.f44]
  rw [decide_eq_true g4]
  simp -implicitDefEqProofs (disch := omega) [go_sem]
  refine .inl (call_data c5 (by simp [go_sem]) ?_)
  by_cases g5 : nameOk o.user
  rotate_left
  · have hno : ¬ MayP o := fun hk => by unfold MayP at hk; unfold nameOk at g5; omega
    simp -implicitDefEqProofs (disch := omega) [go_sem, decide_eq_false g5, decide_eq_false hno, Try.f44]
  rw [decide_eq_true g5]
  have hyes : MayP o := by unfold MayP; unfold nameOk at g5; omega
  simp -implicitDefEqProofs (disch := omega) [go_sem, hyes, Try.f44]
/-- Somebody holds it. -/
def held (l : List Sess) (a : Int) : Bool := decide (0 ≤ first (fun s : Sess => decide (s.addr = a)) 0 l)
/-- The least address that is free, from the k-th on. -/
def freeOf (l : List Sess) : Nat → Nat → Int × Bool
  | 0, _ => (0, false)
  | n + 1, k => if held l (167772161 + k) then freeOf l n (k + 1) else (167772161 + k, true)
theorem freeOf_skip (l : List Sess) : ∀ (n k m : Nat), k ≤ n → (∀ j, j < k → held l (167772161 + ((m + j : Nat) : Int)) = true) → freeOf l n m = freeOf l (n - k) (m + k)
  | n, 0, m, _, _ => by simp
  | 0, k + 1, m, h, _ => by omega
  | n + 1, k + 1, m, h, hh => by
    have h0 := hh 0 (by omega)
    simp only [Nat.add_zero] at h0
    rw [freeOf, if_pos h0, freeOf_skip l n k (m + 1) (by omega) (fun j hj => by have := hh (j + 1) (by omega); rwa [show m + 1 + j = m + (j + 1) by omega])]
    congr 1 <;> omega
set_option maxHeartbeats 1000000 in
theorem free_pc (b : Book) (hb : Fits b) : PC Try.prog Γ 24 [book b] (.tup [.int .u32 (freeOf b.opn 6 0).1, .bool (freeOf b.opn 6 0).2]) := by
  refine pc_by mixed Try.func24 rfl (fun args w => Try.call24 args w) ?_
  have c1 := fun a => hasAddr_pc Γ b.opn hb.o a
  simp -implicitDefEqProofs (disch := omega) [go_sem, book]
  refine loop_ren (σ := { i : Nat // i ≤ 6 ∧ ∀ j : Nat, j < i → held b.opn (167772161 + (j : Int)) = true }) (fun i => ⟨envL [(1, .ptr 0 0), (2, .data (.int .u32 0)), (3, .data (.bool false)), (6, .data (.int .u32 i.1))], hpL [(0, .blk true [.data (.int .i64 b.next), .data (.sl 6 (sesss b.opn)), .data (.sl 5 (items b.items)), .data (.sl 3 (locks b.locks))])], 1, 0, 18⟩) (fun i => 6 - i.1) ⟨0, by omega, by omega⟩ [] (rhoL [(0, some 0)]) ?_ ?_
  · apply ren_lists <;> simp -implicitDefEqProofs [go_sem]
  rintro ⟨i, hi, hall⟩
  have hsk := freeOf_skip b.opn 6 i 0 hi (fun j hj => by have := hall j hj; rwa [Nat.zero_add])
  by_cases h : i < 6
  · have hm : (167772161 + (i : Int)) % 4294967296 = 167772161 + (i : Int) := by omega
    have hm1 : ((i : Int) + 1) % 4294967296 = (i : Int) + 1 := by omega
    simp -implicitDefEqProofs (disch := omega) [go_sem, hm]
    refine .inl (call_data (c1 (167772161 + (i : Int))) (by simp [go_sem]) ?_)
    cases hq : held b.opn (167772161 + (i : Int)) with
    | true =>
      have hq2 : decide (0 ≤ first (fun s : Sess => decide (s.addr = 167772161 + (i : Int))) 0 b.opn) = true := hq
      rw [hq2]
      simp -implicitDefEqProofs (disch := omega) [go_sem, hm1]
      refine next_ren ⟨i + 1, by omega, fun j hj => if e : j = i then by subst e; exact hq else hall j (by omega)⟩ (by simp only; omega) [] (rhoL [(0, some 0)]) ?_
      apply ren_lists <;> simp -implicitDefEqProofs [go_sem]
    | false =>
      have hq2 : decide (0 ≤ first (fun s : Sess => decide (s.addr = 167772161 + (i : Int))) 0 b.opn) = false := hq
      have hr : freeOf b.opn 6 0 = (167772161 + (i : Int), true) := by
        rw [hsk, show 6 - i = (5 - i) + 1 by omega, freeOf, Nat.zero_add, if_neg (by rw [hq]; simp)]
      rw [hq2]
      simp -implicitDefEqProofs (disch := omega) [go_sem, hm, hr, Try.results24]
  have hr : freeOf b.opn 6 0 = (0, false) := by
    obtain rfl : i = 6 := by omega
    rw [hsk]; rfl
  simp -implicitDefEqProofs (disch := omega) [go_sem, hr, Try.results24]
end Bk
end Go.Proofs.Ytedcnbkhdkchoaa
