/- Books: sessions, lines and locks, held against each other; books that are the same. -/
import Derived.Test.YtedcnbkhdkchoaaBA
namespace Go.Proofs.Ytedcnbkhdkchoaa
open Go.RowKit
set_option linter.unusedVariables false
set_option linter.unusedSimpArgs false
namespace Bk
theorem sess_flat : ∃ fs, FlatS Try.prog 48 fs [.i .i64, .i .i64, .i .u32, .s, .i .u64, .i .u64] := ⟨_, {
  ut := Try.underlying48
  n := rfl
  ct := by kernel_rfl
  names := by simp
  each := by kernel_rfl
  deep := run_equalIn_deep 9998 2 48 (by kernel_rfl)
  guard := by kernel_rfl }⟩
theorem item_flat : ∃ fs, FlatS Try.prog 46 fs [.i .i64, .i .i64, .i .u64, .i .u64, .i .i64] := ⟨_, {
  ut := Try.underlying46
  n := rfl
  ct := by kernel_rfl
  names := by simp
  each := by kernel_rfl
  deep := run_equalIn_deep 9998 2 46 (by kernel_rfl)
  guard := by kernel_rfl }⟩
theorem lock_flat : ∃ fs, FlatS Try.prog 51 fs [.s, .i .i64, .i .i64] := ⟨_, {
  ut := Try.underlying51
  n := rfl
  ct := by kernel_rfl
  names := by simp
  each := by kernel_rfl
  deep := run_equalIn_deep 9998 2 51 (by kernel_rfl)
  guard := by kernel_rfl }⟩
def R64 (n : Int) : Prop := -9223372036854775808 ≤ n ∧ n ≤ 9223372036854775807
def U64 (n : Int) : Prop := 0 ≤ n ∧ n ≤ 18446744073709551615
structure Sess.Ty (s : Sess) : Prop where
  id : R64 s.id
  link : R64 s.link
  addr : 0 ≤ s.addr ∧ s.addr ≤ 4294967295
  user : s.user.size ≤ maxLen
  inn : U64 s.inn
  out : U64 s.out
structure Item.Ty (s : Item) : Prop where
  kind : R64 s.kind
  id : R64 s.id
  inn : U64 s.inn
  out : U64 s.out
  cause : R64 s.cause
structure Lock.Ty (s : Lock) : Prop where
  user : s.user.size ≤ maxLen
  n : R64 s.n
  at_ : R64 s.at_
structure Book.Ty (b : Book) : Prop where
  o : ∀ s ∈ b.opn, s.Ty
  i : ∀ x ∈ b.items, x.Ty
  l : ∀ x ∈ b.locks, x.Ty
theorem Sess.fit {s : Sess} (h : s.Ty) : FitD [.i .i64, .i .i64, .i .u32, .s, .i .u64, .i .u64] [.int .i64 s.id, .int .i64 s.link, .int .u32 s.addr, .str s.user, .int .u64 s.inn, .int .u64 s.out] := by
  simp only [fitD_cons, fitD_nil]
  exact ⟨fit_int h.id, fit_int h.link, fit_int h.addr, fit_str h.user, fit_int h.inn, fit_int h.out, trivial⟩
theorem Item.fit {s : Item} (h : s.Ty) : FitD [.i .i64, .i .i64, .i .u64, .i .u64, .i .i64] [.int .i64 s.kind, .int .i64 s.id, .int .u64 s.inn, .int .u64 s.out, .int .i64 s.cause] := by
  simp only [fitD_cons, fitD_nil]
  exact ⟨fit_int h.kind, fit_int h.id, fit_int h.inn, fit_int h.out, fit_int h.cause, trivial⟩
theorem Lock.fit {s : Lock} (h : s.Ty) : FitD [.s, .i .i64, .i .i64] [.str s.user, .int .i64 s.n, .int .i64 s.at_] := by
  simp only [fitD_cons, fitD_nil]
  exact ⟨fit_str h.user, fit_int h.n, fit_int h.at_, trivial⟩
theorem sess_eq (a c : Sess) : ([.int .i64 a.id, .int .i64 a.link, .int .u32 a.addr, .str a.user, .int .u64 a.inn, .int .u64 a.out] : List Data) = [.int .i64 c.id, .int .i64 c.link, .int .u32 c.addr, .str c.user, .int .u64 c.inn, .int .u64 c.out] ↔ a = c := by
  cases a; cases c; simp
theorem item_eq (a c : Item) : ([.int .i64 a.kind, .int .i64 a.id, .int .u64 a.inn, .int .u64 a.out, .int .i64 a.cause] : List Data) = [.int .i64 c.kind, .int .i64 c.id, .int .u64 c.inn, .int .u64 c.out, .int .i64 c.cause] ↔ a = c := by
  cases a; cases c; simp
theorem lock_eq (a c : Lock) : ([.str a.user, .int .i64 a.n, .int .i64 a.at_] : List Data) = [.str c.user, .int .i64 c.n, .int .i64 c.at_] ↔ a = c := by
  cases a; cases c; simp
theorem eqK_sess {a c : Sess} (ha : a.Ty) (hc : c.Ty) {K : Bool → Prop} (hk : K (decide (a = c))) : eqK Try.prog 48 (.agg [.int .i64 a.id, .int .i64 a.link, .int .u32 a.addr, .str a.user, .int .u64 a.inn, .int .u64 a.out]) (.agg [.int .i64 c.id, .int .i64 c.link, .int .u32 c.addr, .str c.user, .int .u64 c.inn, .int .u64 c.out]) K := by
  obtain ⟨fs, hf⟩ := sess_flat
  exact eqK_flat hf (Sess.fit ha) (Sess.fit hc) (sess_eq a c) hk
theorem eqK_item {a c : Item} (ha : a.Ty) (hc : c.Ty) {K : Bool → Prop} (hk : K (decide (a = c))) : eqK Try.prog 46 (.agg [.int .i64 a.kind, .int .i64 a.id, .int .u64 a.inn, .int .u64 a.out, .int .i64 a.cause]) (.agg [.int .i64 c.kind, .int .i64 c.id, .int .u64 c.inn, .int .u64 c.out, .int .i64 c.cause]) K := by
  obtain ⟨fs, hf⟩ := item_flat
  exact eqK_flat hf (Item.fit ha) (Item.fit hc) (item_eq a c) hk
theorem eqK_lock {a c : Lock} (ha : a.Ty) (hc : c.Ty) {K : Bool → Prop} (hk : K (decide (a = c))) : eqK Try.prog 51 (.agg [.str a.user, .int .i64 a.n, .int .i64 a.at_]) (.agg [.str c.user, .int .i64 c.n, .int .i64 c.at_]) K := by
  obtain ⟨fs, hf⟩ := lock_flat
  exact eqK_flat hf (Lock.fit ha) (Lock.fit hc) (lock_eq a c) hk
set_option maxHeartbeats 4000000 in
set_option maxRecDepth 100000 in
theorem same_pc (Γ : Nat → Option (List Data)) (a b : Book) (ha : Fits a) (hb : Fits b) (ta : a.Ty) (tb : b.Ty) : PC Try.prog Γ 20 [book a, book b] (.bool (decide (a = b))) := by
  refine pc_by mixed Try.func20 rfl (fun args w => Try.call20 args w) ?_
  obtain ⟨ao, ai, al, -, -⟩ := ha
  obtain ⟨bo, bi, bl, -, -⟩ := hb
  simp -implicitDefEqProofs (disch := omega) [go_sem, book]
  by_cases g0 : a.next = b.next
  rotate_left
  · have hno : ¬ a = b := fun e => g0 (by rw [e])
    simp -implicitDefEqProofs (disch := omega) [go_sem, g0, hno, Try.results20]
  by_cases g1 : a.opn.length = b.opn.length
  rotate_left
  · have hno : ¬ a = b := fun e => g1 (by rw [e])
    simp -implicitDefEqProofs (disch := omega) [go_sem, g0, hno, Try.results20]
  by_cases g2 : a.items.length = b.items.length
  rotate_left
  · have hno : ¬ a = b := fun e => g2 (by rw [e])
    simp -implicitDefEqProofs (disch := omega) [go_sem, g0, hno, Try.results20]
  by_cases g3 : a.locks.length = b.locks.length
  rotate_left
  · have hno : ¬ a = b := fun e => g3 (by rw [e])
    simp -implicitDefEqProofs (disch := omega) [go_sem, g0, hno, Try.results20]
  simp -implicitDefEqProofs (disch := omega) [go_sem, g0]
  refine loop_ren (σ := { i : Nat // i ≤ a.opn.length ∧ ∀ (j : Nat) (h : j < a.opn.length) (h2 : j < b.opn.length), j < i → a.opn[j] = b.opn[j] }) (fun i => ⟨envL [(2, .ptr 0 0), (3, .ptr 1 0), (5, .data (.int .i64 i.1))], hpL [(0, .blk true [.data (.int .i64 b.next), .data (.sl 6 (sesss a.opn)), .data (.sl 5 (items a.items)), .data (.sl 3 (locks a.locks))]), (1, .blk true [.data (.int .i64 b.next), .data (.sl 6 (sesss b.opn)), .data (.sl 5 (items b.items)), .data (.sl 3 (locks b.locks))])], 2, 0, 94⟩) (fun i => a.opn.length - i.1) ⟨0, by omega, by omega⟩ [] (rhoL [(0, some 0), (1, some 1)]) ?_ ?_
  · apply ren_lists <;> simp -implicitDefEqProofs [go_sem]
  rintro ⟨i, hi, hall⟩
  by_cases h : i < a.opn.length
  · have h2 : i < b.opn.length := by omega
    simp -implicitDefEqProofs (disch := omega) [go_sem]
    refine eqK_sess (ta.o _ (List.getElem_mem h)) (tb.o _ (List.getElem_mem h2)) ?_
    by_cases he : a.opn[i] = b.opn[i]
    · simp -implicitDefEqProofs (disch := omega) [go_sem, he]
      refine side (by kernel_rfl) ?_
      simp -implicitDefEqProofs (disch := omega) [go_sem]
      refine next_ren ⟨i + 1, by omega, fun j hj hj2 hl => if e : j = i then by subst e; exact he else hall j hj hj2 (by omega)⟩ (by simp only; omega) [] (rhoL [(0, some 0), (1, some 1)]) ?_
      apply ren_lists <;> simp -implicitDefEqProofs [go_sem]
    · have hno : ¬ a = b := fun e => he (by subst e; rfl)
      simp -implicitDefEqProofs (disch := omega) [go_sem, he]
      refine side (by kernel_rfl) ?_
      simp -implicitDefEqProofs (disch := omega) [go_sem, hno, Try.results20]
  have e0 : a.opn = b.opn := List.ext_getElem g1 fun j h1 h2 => hall j h1 h2 (by omega)
  simp -implicitDefEqProofs (disch := omega) [go_sem]
  clear h hall hi
  refine loop_ren (σ := { i : Nat // i ≤ a.items.length ∧ ∀ (j : Nat) (h : j < a.items.length) (h2 : j < b.items.length), j < i → a.items[j] = b.items[j] }) (fun i => ⟨envL [(2, .ptr 0 0), (3, .ptr 1 0), (6, .data (.int .i64 i.1))], hpL [(0, .blk true [.data (.int .i64 b.next), .data (.sl 6 (sesss a.opn)), .data (.sl 5 (items a.items)), .data (.sl 3 (locks a.locks))]), (1, .blk true [.data (.int .i64 b.next), .data (.sl 6 (sesss b.opn)), .data (.sl 5 (items b.items)), .data (.sl 3 (locks b.locks))])], 2, 0, 94⟩) (fun i => a.items.length - i.1) ⟨0, by omega, by omega⟩ [] (rhoL [(0, some 0), (1, some 1)]) ?_ ?_
  · apply ren_lists <;> simp -implicitDefEqProofs [go_sem]
  rintro ⟨i, hi, hall⟩
  by_cases h : i < a.items.length
  · have h2 : i < b.items.length := by omega
    simp -implicitDefEqProofs (disch := omega) [go_sem]
    refine eqK_item (ta.i _ (List.getElem_mem h)) (tb.i _ (List.getElem_mem h2)) ?_
    by_cases he : a.items[i] = b.items[i]
    · simp -implicitDefEqProofs (disch := omega) [go_sem, he]
      refine side (by kernel_rfl) ?_
      simp -implicitDefEqProofs (disch := omega) [go_sem]
      refine next_ren ⟨i + 1, by omega, fun j hj hj2 hl => if e : j = i then by subst e; exact he else hall j hj hj2 (by omega)⟩ (by simp only; omega) [] (rhoL [(0, some 0), (1, some 1)]) ?_
      apply ren_lists <;> simp -implicitDefEqProofs [go_sem]
    · have hno : ¬ a = b := fun e => he (by subst e; rfl)
      simp -implicitDefEqProofs (disch := omega) [go_sem, he]
      refine side (by kernel_rfl) ?_
      simp -implicitDefEqProofs (disch := omega) [go_sem, hno, Try.results20]
  have e1 : a.items = b.items := List.ext_getElem g2 fun j h1 h2 => hall j h1 h2 (by omega)
  simp -implicitDefEqProofs (disch := omega) [go_sem]
  clear h hall hi
  refine loop_ren (σ := { i : Nat // i ≤ a.locks.length ∧ ∀ (j : Nat) (h : j < a.locks.length) (h2 : j < b.locks.length), j < i → a.locks[j] = b.locks[j] }) (fun i => ⟨envL [(2, .ptr 0 0), (3, .ptr 1 0), (7, .data (.int .i64 i.1))], hpL [(0, .blk true [.data (.int .i64 b.next), .data (.sl 6 (sesss a.opn)), .data (.sl 5 (items a.items)), .data (.sl 3 (locks a.locks))]), (1, .blk true [.data (.int .i64 b.next), .data (.sl 6 (sesss b.opn)), .data (.sl 5 (items b.items)), .data (.sl 3 (locks b.locks))])], 2, 0, 94⟩) (fun i => a.locks.length - i.1) ⟨0, by omega, by omega⟩ [] (rhoL [(0, some 0), (1, some 1)]) ?_ ?_
  · apply ren_lists <;> simp -implicitDefEqProofs [go_sem]
  rintro ⟨i, hi, hall⟩
  by_cases h : i < a.locks.length
  · have h2 : i < b.locks.length := by omega
    simp -implicitDefEqProofs (disch := omega) [go_sem]
    refine eqK_lock (ta.l _ (List.getElem_mem h)) (tb.l _ (List.getElem_mem h2)) ?_
    by_cases he : a.locks[i] = b.locks[i]
    · simp -implicitDefEqProofs (disch := omega) [go_sem, he]
      refine side (by kernel_rfl) ?_
      simp -implicitDefEqProofs (disch := omega) [go_sem]
      refine next_ren ⟨i + 1, by omega, fun j hj hj2 hl => if e : j = i then by subst e; exact he else hall j hj hj2 (by omega)⟩ (by simp only; omega) [] (rhoL [(0, some 0), (1, some 1)]) ?_
      apply ren_lists <;> simp -implicitDefEqProofs [go_sem]
    · have hno : ¬ a = b := fun e => he (by subst e; rfl)
      simp -implicitDefEqProofs (disch := omega) [go_sem, he]
      refine side (by kernel_rfl) ?_
      simp -implicitDefEqProofs (disch := omega) [go_sem, hno, Try.results20]
  have e2 : a.locks = b.locks := List.ext_getElem g3 fun j h1 h2 => hall j h1 h2 (by omega)
  have hyes : a = b := by
    cases a; cases b
    simp only at g0 e0 e1 e2
    subst g0; subst e0; subst e1; subst e2
    rfl
  simp -implicitDefEqProofs (disch := omega) [go_sem, hyes, Try.results20]
end Bk
end Go.Proofs.Ytedcnbkhdkchoaa
