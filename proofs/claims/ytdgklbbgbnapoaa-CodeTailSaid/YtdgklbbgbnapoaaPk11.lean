/- Books: sessions, lines and locks, held against each other; books that are the same. Books: the program's rows held against each other; its books that are the same; ops that may be done; the address that is free. Code: heads and records written. Printed by genOF.py. Code: records read. Code: a book as parts. Books: which are open rightly. (By genB.py.) Books: which are right. (By genX.py.) Code: what of a right book fits; snapshots written. Code: the document's own writing. Code: the document's own records. Printed by genOK.py. Code: the document's own reading. The document's own comparison of rows. Code: the document's own reading of heads. Code: what is read is what was written (heads and records). -/
import Derived.Test.YtdgklbbgbnapoaaPk10
import Derived.Test.YtdgklbbgbnapoaaChecked
namespace Go.Proofs.Ytdgklbbgbnapoaa
open Go.RowKit
set_option linter.unusedVariables false
set_option linter.unusedSimpArgs false
namespace Bk
theorem sess_flat : ∃ fs, FlatS Try.prog 89 fs [.i .i64, .i .i64, .i .u32, .s, .i .u64, .i .u64] := ⟨_, {
  ut := Try.underlying89
  n := rfl
  ct := by kernel_rfl
  names := by simp
  each := by kernel_rfl
  deep := run_equalIn_deep 9998 2 89 (by kernel_rfl)
  guard := by kernel_rfl }⟩
theorem item_flat : ∃ fs, FlatS Try.prog 94 fs [.i .i64, .i .i64, .i .u64, .i .u64, .i .i64] := ⟨_, {
  ut := Try.underlying94
  n := rfl
  ct := by kernel_rfl
  names := by simp
  each := by kernel_rfl
  deep := run_equalIn_deep 9998 2 94 (by kernel_rfl)
  guard := by kernel_rfl }⟩
theorem lock_flat : ∃ fs, FlatS Try.prog 91 fs [.s, .i .i64, .i .i64] := ⟨_, {
  ut := Try.underlying91
  n := rfl
  ct := by kernel_rfl
  names := by simp
  each := by kernel_rfl
  deep := run_equalIn_deep 9998 2 91 (by kernel_rfl)
  guard := by kernel_rfl }⟩
def R64 (n : Int) : Prop := -9223372036854775808 ≤ n ∧ n ≤ 9223372036854775807
def U64 (n : Int) : Prop := 0 ≤ n ∧ n ≤ 18446744073709551615
structure Sess.Ty (s : Sess) : Prop where
  id : R64 s.id
  link : R64 s.link
  addr : 0 ≤ s.addr ∧ s.addr ≤ 4294967295
  user : s.user.size ≤ maxLen
  inn : U64 s.inn
  out : U64 s.out
structure Item.Ty (s : Item) : Prop where
  kind : R64 s.kind
  id : R64 s.id
  inn : U64 s.inn
  out : U64 s.out
  cause : R64 s.cause
structure Lock.Ty (s : Lock) : Prop where
  user : s.user.size ≤ maxLen
  n : R64 s.n
  at_ : R64 s.at_
structure Book.Ty (b : Book) : Prop where
  o : ∀ s ∈ b.opn, s.Ty
  i : ∀ x ∈ b.items, x.Ty
  l : ∀ x ∈ b.locks, x.Ty
theorem Sess.fit {s : Sess} (h : s.Ty) : FitD [.i .i64, .i .i64, .i .u32, .s, .i .u64, .i .u64] [.int .i64 s.id, .int .i64 s.link, .int .u32 s.addr, .str s.user, .int .u64 s.inn, .int .u64 s.out] := by
  simp only [fitD_cons, fitD_nil]
  exact ⟨fit_int h.id, fit_int h.link, fit_int h.addr, fit_str h.user, fit_int h.inn, fit_int h.out, trivial⟩
theorem Item.fit {s : Item} (h : s.Ty) : FitD [.i .i64, .i .i64, .i .u64, .i .u64, .i .i64] [.int .i64 s.kind, .int .i64 s.id, .int .u64 s.inn, .int .u64 s.out, .int .i64 s.cause] := by
  simp only [fitD_cons, fitD_nil]
  exact ⟨fit_int h.kind, fit_int h.id, fit_int h.inn, fit_int h.out, fit_int h.cause, trivial⟩
theorem Lock.fit {s : Lock} (h : s.Ty) : FitD [.s, .i .i64, .i .i64] [.str s.user, .int .i64 s.n, .int .i64 s.at_] := by
  simp only [fitD_cons, fitD_nil]
  exact ⟨fit_str h.user, fit_int h.n, fit_int h.at_, trivial⟩
theorem sess_eq (a c : Sess) : ([.int .i64 a.id, .int .i64 a.link, .int .u32 a.addr, .str a.user, .int .u64 a.inn, .int .u64 a.out] : List Data) = [.int .i64 c.id, .int .i64 c.link, .int .u32 c.addr, .str c.user, .int .u64 c.inn, .int .u64 c.out] ↔ a = c := by
  cases a; cases c; simp
theorem item_eq (a c : Item) : ([.int .i64 a.kind, .int .i64 a.id, .int .u64 a.inn, .int .u64 a.out, .int .i64 a.cause] : List Data) = [.int .i64 c.kind, .int .i64 c.id, .int .u64 c.inn, .int .u64 c.out, .int .i64 c.cause] ↔ a = c := by
  cases a; cases c; simp
theorem lock_eq (a c : Lock) : ([.str a.user, .int .i64 a.n, .int .i64 a.at_] : List Data) = [.str c.user, .int .i64 c.n, .int .i64 c.at_] ↔ a = c := by
  cases a; cases c; simp
theorem eqK_sess {a c : Sess} (ha : a.Ty) (hc : c.Ty) {K : Bool → Prop} (hk : K (decide (a = c))) : eqK Try.prog 89 (.agg [.int .i64 a.id, .int .i64 a.link, .int .u32 a.addr, .str a.user, .int .u64 a.inn, .int .u64 a.out]) (.agg [.int .i64 c.id, .int .i64 c.link, .int .u32 c.addr, .str c.user, .int .u64 c.inn, .int .u64 c.out]) K := by
  obtain ⟨fs, hf⟩ := sess_flat
  exact eqK_flat hf (Sess.fit ha) (Sess.fit hc) (sess_eq a c) hk
theorem eqK_item {a c : Item} (ha : a.Ty) (hc : c.Ty) {K : Bool → Prop} (hk : K (decide (a = c))) : eqK Try.prog 94 (.agg [.int .i64 a.kind, .int .i64 a.id, .int .u64 a.inn, .int .u64 a.out, .int .i64 a.cause]) (.agg [.int .i64 c.kind, .int .i64 c.id, .int .u64 c.inn, .int .u64 c.out, .int .i64 c.cause]) K := by
  obtain ⟨fs, hf⟩ := item_flat
  exact eqK_flat hf (Item.fit ha) (Item.fit hc) (item_eq a c) hk
theorem eqK_lock {a c : Lock} (ha : a.Ty) (hc : c.Ty) {K : Bool → Prop} (hk : K (decide (a = c))) : eqK Try.prog 91 (.agg [.str a.user, .int .i64 a.n, .int .i64 a.at_]) (.agg [.str c.user, .int .i64 c.n, .int .i64 c.at_]) K := by
  obtain ⟨fs, hf⟩ := lock_flat
  exact eqK_flat hf (Lock.fit ha) (Lock.fit hc) (lock_eq a c) hk
set_option maxHeartbeats 4000000 in
set_option maxRecDepth 100000 in
theorem same_pc (Γ : Nat → Option (List Data)) (a b : Book) (ha : Fits a) (hb : Fits b) (ta : a.Ty) (tb : b.Ty) : PC Try.prog Γ 25 [book a, book b] (.bool (decide (a = b))) := by
  refine pc_by mixed Try.func25 rfl (fun args w => Try.call25 args w) ?_
  obtain ⟨ao, ai, al, -, -⟩ := ha
  obtain ⟨bo, bi, bl, -, -⟩ := hb
  simp -implicitDefEqProofs (disch := omega) [go_sem, book]
  by_cases g0 : a.next = b.next
  rotate_left
  · have hno : ¬ a = b := fun e => g0 (by rw [e])
    simp -implicitDefEqProofs (disch := omega) [go_sem, g0, hno, Try.results25]
  by_cases g1 : a.opn.length = b.opn.length
  rotate_left
  · have hno : ¬ a = b := fun e => g1 (by rw [e])
    simp -implicitDefEqProofs (disch := omega) [go_sem, g0, hno, Try.results25]
  by_cases g2 : a.items.length = b.items.length
  rotate_left
  · have hno : ¬ a = b := fun e => g2 (by rw [e])
    simp -implicitDefEqProofs (disch := omega) [go_sem, g0, hno, Try.results25]
  by_cases g3 : a.locks.length = b.locks.length
  rotate_left
  · have hno : ¬ a = b := fun e => g3 (by rw [e])
    simp -implicitDefEqProofs (disch := omega) [go_sem, g0, hno, Try.results25]
  simp -implicitDefEqProofs (disch := omega) [go_sem, g0]
  refine loop_ren (σ := { i : Nat // i ≤ a.opn.length ∧ ∀ (j : Nat) (h : j < a.opn.length) (h2 : j < b.opn.length), j < i → a.opn[j] = b.opn[j] }) (fun i => ⟨envL [(2, .ptr 0 0), (3, .ptr 1 0), (5, .data (.int .i64 i.1))], hpL [(0, .blk true [.data (.int .i64 b.next), .data (.sl 6 (sesss a.opn)), .data (.sl 5 (items a.items)), .data (.sl 3 (locks a.locks))]), (1, .blk true [.data (.int .i64 b.next), .data (.sl 6 (sesss b.opn)), .data (.sl 5 (items b.items)), .data (.sl 3 (locks b.locks))])], 2, 0, 94⟩) (fun i => a.opn.length - i.1) ⟨0, by omega, by omega⟩ [] (rhoL [(0, some 0), (1, some 1)]) ?_ ?_
  · apply ren_lists <;> simp -implicitDefEqProofs [go_sem]
  rintro ⟨i, hi, hall⟩
  by_cases h : i < a.opn.length
  · have h2 : i < b.opn.length := by omega
    simp -implicitDefEqProofs (disch := omega) [go_sem]
    refine eqK_sess (ta.o _ (List.getElem_mem h)) (tb.o _ (List.getElem_mem h2)) ?_
    by_cases he : a.opn[i] = b.opn[i]
    · simp -implicitDefEqProofs (disch := omega) [go_sem, he]
      refine side (by kernel_rfl) ?_
      simp -implicitDefEqProofs (disch := omega) [go_sem]
      refine next_ren ⟨i + 1, by omega, fun j hj hj2 hl => if e : j = i then by subst e; exact he else hall j hj hj2 (by omega)⟩ (by simp only; omega) [] (rhoL [(0, some 0), (1, some 1)]) ?_
      apply ren_lists <;> simp -implicitDefEqProofs [go_sem]
    · have hno : ¬ a = b := fun e => he (by subst e; rfl)
      simp -implicitDefEqProofs (disch := omega) [go_sem, he]
      refine side (by kernel_rfl) ?_
      simp -implicitDefEqProofs (disch := omega) [go_sem, hno, Try.results25]
  have e0 : a.opn = b.opn := List.ext_getElem g1 fun j h1 h2 => hall j h1 h2 (by omega)
  simp -implicitDefEqProofs (disch := omega) [go_sem]
  clear h hall hi
  refine loop_ren (σ := { i : Nat // i ≤ a.items.length ∧ ∀ (j : Nat) (h : j < a.items.length) (h2 : j < b.items.length), j < i → a.items[j] = b.items[j] }) (fun i => ⟨envL [(2, .ptr 0 0), (3, .ptr 1 0), (6, .data (.int .i64 i.1))], hpL [(0, .blk true [.data (.int .i64 b.next), .data (.sl 6 (sesss a.opn)), .data (.sl 5 (items a.items)), .data (.sl 3 (locks a.locks))]), (1, .blk true [.data (.int .i64 b.next), .data (.sl 6 (sesss b.opn)), .data (.sl 5 (items b.items)), .data (.sl 3 (locks b.locks))])], 2, 0, 94⟩) (fun i => a.items.length - i.1) ⟨0, by omega, by omega⟩ [] (rhoL [(0, some 0), (1, some 1)]) ?_ ?_
  · apply ren_lists <;> simp -implicitDefEqProofs [go_sem]
  rintro ⟨i, hi, hall⟩
  by_cases h : i < a.items.length
  · have h2 : i < b.items.length := by omega
    simp -implicitDefEqProofs (disch := omega) [go_sem]
    refine eqK_item (ta.i _ (List.getElem_mem h)) (tb.i _ (List.getElem_mem h2)) ?_
    by_cases he : a.items[i] = b.items[i]
    · simp -implicitDefEqProofs (disch := omega) [go_sem, he]
      refine side (by kernel_rfl) ?_
      simp -implicitDefEqProofs (disch := omega) [go_sem]
      refine next_ren ⟨i + 1, by omega, fun j hj hj2 hl => if e : j = i then by subst e; exact he else hall j hj hj2 (by omega)⟩ (by simp only; omega) [] (rhoL [(0, some 0), (1, some 1)]) ?_
      apply ren_lists <;> simp -implicitDefEqProofs [go_sem]
    · have hno : ¬ a = b := fun e => he (by subst e; rfl)
      simp -implicitDefEqProofs (disch := omega) [go_sem, he]
      refine side (by kernel_rfl) ?_
      simp -implicitDefEqProofs (disch := omega) [go_sem, hno, Try.results25]
  have e1 : a.items = b.items := List.ext_getElem g2 fun j h1 h2 => hall j h1 h2 (by omega)
  simp -implicitDefEqProofs (disch := omega) [go_sem]
  clear h hall hi
  refine loop_ren (σ := { i : Nat // i ≤ a.locks.length ∧ ∀ (j : Nat) (h : j < a.locks.length) (h2 : j < b.locks.length), j < i → a.locks[j] = b.locks[j] }) (fun i => ⟨envL [(2, .ptr 0 0), (3, .ptr 1 0), (7, .data (.int .i64 i.1))], hpL [(0, .blk true [.data (.int .i64 b.next), .data (.sl 6 (sesss a.opn)), .data (.sl 5 (items a.items)), .data (.sl 3 (locks a.locks))]), (1, .blk true [.data (.int .i64 b.next), .data (.sl 6 (sesss b.opn)), .data (.sl 5 (items b.items)), .data (.sl 3 (locks b.locks))])], 2, 0, 94⟩) (fun i => a.locks.length - i.1) ⟨0, by omega, by omega⟩ [] (rhoL [(0, some 0), (1, some 1)]) ?_ ?_
  · apply ren_lists <;> simp -implicitDefEqProofs [go_sem]
  rintro ⟨i, hi, hall⟩
  by_cases h : i < a.locks.length
  · have h2 : i < b.locks.length := by omega
    simp -implicitDefEqProofs (disch := omega) [go_sem]
    refine eqK_lock (ta.l _ (List.getElem_mem h)) (tb.l _ (List.getElem_mem h2)) ?_
    by_cases he : a.locks[i] = b.locks[i]
    · simp -implicitDefEqProofs (disch := omega) [go_sem, he]
      refine side (by kernel_rfl) ?_
      simp -implicitDefEqProofs (disch := omega) [go_sem]
      refine next_ren ⟨i + 1, by omega, fun j hj hj2 hl => if e : j = i then by subst e; exact he else hall j hj hj2 (by omega)⟩ (by simp only; omega) [] (rhoL [(0, some 0), (1, some 1)]) ?_
      apply ren_lists <;> simp -implicitDefEqProofs [go_sem]
    · have hno : ¬ a = b := fun e => he (by subst e; rfl)
      simp -implicitDefEqProofs (disch := omega) [go_sem, he]
      refine side (by kernel_rfl) ?_
      simp -implicitDefEqProofs (disch := omega) [go_sem, hno, Try.results25]
  have e2 : a.locks = b.locks := List.ext_getElem g3 fun j h1 h2 => hall j h1 h2 (by omega)
  have hyes : a = b := by
    cases a; cases b
    simp only at g0 e0 e1 e2
    subst g0; subst e0; subst e1; subst e2
    rfl
  simp -implicitDefEqProofs (disch := omega) [go_sem, hyes, Try.results25]
end Bk
end Go.Proofs.Ytdgklbbgbnapoaa
namespace Go.Proofs.Ytdgklbbgbnapoaa
open Go.RowKit
set_option linter.unusedVariables false
set_option linter.unusedSimpArgs false
namespace Bk
variable (Γ : Nat → Option (List Data))
set_option maxHeartbeats 1000000 in
theorem may2_pc (o : Op) : PC Try.prog Γ 52 [op o] (.bool (decide (MayP o))) := by
  refine pc_by mixed Try.func52 rfl (fun args w => Try.call52 args w) ?_
  have c0 := isFrom_pc Γ o.kind 1 6
  have c1 := isFrom_pc Γ o.id 0 1000000000
  have c2 := isLink_pc Γ o.link
  have c3 := isFrom_pc Γ o.at_ 0 1000000000
  have c4 := isFrom_pc Γ o.cause 0 255
  have c5 := isUser_pc Γ o.user
  simp -implicitDefEqProofs (disch := omega) [go_sem, op]
  refine .inl (call_data c0 (by simp [go_sem]) ?_)
  by_cases g0 : 1 ≤ o.kind ∧ o.kind ≤ 6
  rotate_left
  · have hno : ¬ MayP o := fun hk => by unfold MayP at hk; omega
    simp -implicitDefEqProofs (disch := omega) [go_sem, decide_eq_false g0, decide_eq_false hno, Try.f52]
  rw [decide_eq_true g0]
  simp -implicitDefEqProofs (disch := omega) [go_sem]
  refine .inl (call_data c1 (by simp [go_sem]) ?_)
  by_cases g1 : 0 ≤ o.id ∧ o.id ≤ 1000000000
  rotate_left
  · have hno : ¬ MayP o := fun hk => by unfold MayP at hk; omega
    simp -implicitDefEqProofs (disch := omega) [go_sem, decide_eq_false g1, decide_eq_false hno, Try.f52]
  rw [decide_eq_true g1]
  simp -implicitDefEqProofs (disch := omega) [go_sem]
  refine .inl (call_data c2 (by simp [go_sem]) ?_)
  by_cases g2 : 0 ≤ o.link ∧ o.link ≤ 7
  rotate_left
  · have hno : ¬ MayP o := fun hk => by unfold MayP at hk; omega
    simp -implicitDefEqProofs (disch := omega) [go_sem, decide_eq_false g2, decide_eq_false hno, Try.f52]
  rw [decide_eq_true g2]
  simp -implicitDefEqProofs (disch := omega) [go_sem]
  refine .inl (call_data c3 (by simp [go_sem]) ?_)
  by_cases g3 : 0 ≤ o.at_ ∧ o.at_ ≤ 1000000000
  rotate_left
  · have hno : ¬ MayP o := fun hk => by unfold MayP at hk; omega
    simp -implicitDefEqProofs (disch := omega) [go_sem, decide_eq_false g3, decide_eq_false hno, Try.f52]
  rw [decide_eq_true g3]
  simp -implicitDefEqProofs (disch := omega) [go_sem]
  refine .inl (call_data c4 (by simp [go_sem]) ?_)
  by_cases g4 : 0 ≤ o.cause ∧ o.cause ≤ 255
  rotate_left
  · have hno : ¬ MayP o := fun hk => by unfold MayP at hk; omega
    simp -implicitDefEqProofs (disch := omega) [go_sem, decide_eq_false g4, decide_eq_false hno, Try.f52]
  rw [decide_eq_true g4]
  simp -implicitDefEqProofs (disch := omega) [go_sem]
  refine .inl (call_data c5 (by simp [go_sem]) ?_)
  by_cases g5 : nameOk o.user
  rotate_left
  · have hno : ¬ MayP o := fun hk => by unfold MayP at hk; unfold nameOk at g5; omega
    simp -implicitDefEqProofs (disch := omega) [go_sem, decide_eq_false g5, decide_eq_false hno, Try.f52]
  rw [decide_eq_true g5]
  have hyes : MayP o := by unfold MayP; unfold nameOk at g5; omega
  simp -implicitDefEqProofs (disch := omega) [go_sem, hyes, Try.f52]
/-- Somebody holds it. -/
def held (l : List Sess) (a : Int) : Bool := decide (0 ≤ first (fun s : Sess => decide (s.addr = a)) 0 l)
/-- The least address that is free, from the k-th on. -/
def freeOf (l : List Sess) : Nat → Nat → Int × Bool
  | 0, _ => (0, false)
  | n + 1, k => if held l (167772161 + k) then freeOf l n (k + 1) else (167772161 + k, true)
theorem freeOf_skip (l : List Sess) : ∀ (n k m : Nat), k ≤ n → (∀ j, j < k → held l (167772161 + ((m + j : Nat) : Int)) = true) → freeOf l n m = freeOf l (n - k) (m + k)
  | n, 0, m, _, _ => by simp
  | 0, k + 1, m, h, _ => by omega
  | n + 1, k + 1, m, h, hh => by
    have h0 := hh 0 (by omega)
    simp only [Nat.add_zero] at h0
    rw [freeOf, if_pos h0, freeOf_skip l n k (m + 1) (by omega) (fun j hj => by have := hh (j + 1) (by omega); rwa [show m + 1 + j = m + (j + 1) by omega])]
    congr 1 <;> omega
end Bk
end Go.Proofs.Ytdgklbbgbnapoaa
namespace Go.Proofs.Ytdgklbbgbnapoaa
open Go.RowKit
set_option linter.unusedVariables false
set_option linter.unusedSimpArgs false
set_option maxRecDepth 100000
namespace Bk
section
variable (Γ : Nat → Option (List Data))
theorem hd0 : (ByteArray.mk #[72, 68])[0]? = some 72 := rfl
theorem hd1 : (ByteArray.mk #[72, 68])[1]? = some 68 := rfl
theorem re0 : (ByteArray.mk #[82, 69])[0]? = some 82 := rfl
theorem re1 : (ByteArray.mk #[82, 69])[1]? = some 69 := rfl
theorem parts_cells (l : List Part) : ∀ x ∈ parts l, x.cells.length = 1 := fun x hx => by
  obtain ⟨p, _, rfl⟩ := List.mem_map.1 hx
  rw [partD_cells]
  rfl
theorem flat_parts (l : List Part) : flat (parts l) = parts l := by
  induction l with
  | nil => rfl
  | cons p l ih =>
    show (partD p).cells ++ flat (parts l) = _
    rw [partD_cells, ih]
    rfl
theorem frz_parts {H : Nat → Blk} {g n : Nat} {l : List Part} {rw : Bool} (hg : H g = .blk rw ((parts l).map D.data)) (hn : l.length = n) : Frz true H (.ref g 0 n 1) (.sl 1 (parts l)) :=
  frz_ref hg (.inl rfl) (by rw [parts_length, hn]) (parts_cells l) (by rw [flat_parts])
def headW (g : Nat) : List Part := [.num 1 72, .num 1 68, .num 4 g]
set_option maxHeartbeats 4000000 in
theorem headParts_pc (g : Nat) (hg : g < 9223372036854775808) : PC Try.prog Γ 43 [.int .i64 g] (.sl 1 (parts (headW g))) := by
  refine pc_by mixed Try.func43 rfl (fun args w => Try.call43 args w) ?_
  simp -implicitDefEqProofs (disch := omega) [go_sem, hd0, hd1, re0, re1, numDt]
  refine .inl (call_data (oneB_pc Γ 72 (by omega)) (by simp [go_sem, numDt]) ?_)
  simp -implicitDefEqProofs (disch := omega) [go_sem, hd0, hd1, re0, re1, numDt]
  refine .inl (call_data (oneB_pc Γ 68 (by omega)) (by simp [go_sem, numDt]) ?_)
  simp -implicitDefEqProofs (disch := omega) [go_sem, hd0, hd1, re0, re1, numDt]
  refine .inl (call_data (fourI_pc Γ g (by omega)) (by simp [go_sem, numDt]) ?_)
  simp -implicitDefEqProofs (disch := omega) [go_sem, hd0, hd1, re0, re1, numDt]
  refine side (by kernel_rfl) ?_
  simp -implicitDefEqProofs (disch := omega) [go_sem, Try.f43]
  exact ⟨_, ⟨_, rfl, frz_parts (l := headW g) rfl rfl⟩, rfl⟩
def headB (g : Nat) : List Nat := be 1 72 ++ (be 1 68 ++ be 4 g)
theorem headW_bytes (g : Nat) : (headW g).flatMap partB = headB g := by simp [headW, headB, partB]
set_option maxHeartbeats 4000000 in
theorem headBytes_pc (g : Int) : PC Try.prog Γ 21 [.int .i64 g] (if 1 ≤ g ∧ g ≤ 1000000000 then .tup [.sl 1 (bys (padB 128 (headB g.toNat))), .int .i64 0] else .tup [.sl 1 [], .int .i64 1]) := by
  refine pc_by mixed Try.func21 rfl (fun args w => Try.call21 args w) ?_
  have cg := isGen_pc Γ g
  simp -implicitDefEqProofs (disch := omega) [go_sem]
  refine .inl (call_data cg (by simp [go_sem]) ?_)
  by_cases h : 1 ≤ g ∧ g ≤ 1000000000
  · rw [decide_eq_true h, if_pos h]
    obtain ⟨n, rfl⟩ : ∃ n : Nat, g = n := ⟨g.toNat, by omega⟩
    simp -implicitDefEqProofs (disch := omega) [go_sem]
    refine .inl (call_data (headParts_pc Γ n (by omega)) (by simp [go_sem]) ?_)
    simp -implicitDefEqProofs (disch := omega) [go_sem]
    have hl := laid_pc Γ 128 (headW n) (by intro p hp; simp [headW] at hp; rcases hp with rfl | rfl | rfl <;> simp only [PartOk] <;> omega) (by rw [headW_bytes]; simp [headB, be_length]) (by omega) (by simp [headW])
    rw [headW_bytes] at hl
    refine .inl (call_data hl (by simp [go_sem]) ?_)
    simp -implicitDefEqProofs (disch := omega) [go_sem, Try.f21]
  · rw [decide_eq_false h, if_neg h]
    simp -implicitDefEqProofs (disch := omega) [go_sem, Try.f21]
    exact ⟨_, ⟨_, rfl, .emp ..⟩, rfl⟩
def recD (g s : Int) (o : Op) : Data := .agg [.int .i64 g, .int .i64 s, .int .i64 o.kind, .int .i64 o.id, .int .i64 o.link, .int .u32 o.addr, .str o.user, .int .u64 o.inn, .int .u64 o.out, .int .i64 o.cause, .int .i64 o.at_]
structure RecFit (g s : Int) (o : Op) : Prop where
  gen : Fit 4 g
  seq : Fit 1 s
  op : OpFit o
def recW (g s : Int) (o : Op) : List Part := [.num 1 82, .num 1 69, .num 4 g.toNat, .num 1 s.toNat, .num 1 o.kind.toNat, .num 4 o.id.toNat, .num 1 o.link.toNat, .num 4 o.addr.toNat, .nam o.user, .num 8 o.inn.toNat, .num 8 o.out.toNat, .num 1 o.cause.toNat, .num 4 o.at_.toNat]
set_option maxHeartbeats 8000000 in
theorem recParts_pc (g s k i l a n t c z : Nat) (u : ByteArray) (h1 : g < 4294967296) (h2 : s < 256) (h3 : k < 256) (h4 : i < 4294967296) (h5 : l < 256) (h6 : a < 4294967296) (h7 : n < 18446744073709551616) (h8 : t < 18446744073709551616) (h9 : c < 256) (h10 : z < 4294967296) : PC Try.prog Γ 30 [recD g s ⟨k, i, l, a, u, n, t, c, z⟩] (.sl 1 (parts (recW g s ⟨k, i, l, a, u, n, t, c, z⟩))) := by
  refine pc_by mixed Try.func30 rfl (fun args w => Try.call30 args w) ?_
  unfold recD
  simp -implicitDefEqProofs (disch := omega) [go_sem, hd0, hd1, re0, re1, numDt]
  refine .inl (call_data (oneB_pc Γ 82 (by omega)) (by simp [go_sem, numDt]) ?_)
  simp -implicitDefEqProofs (disch := omega) [go_sem, hd0, hd1, re0, re1, numDt]
  refine .inl (call_data (oneB_pc Γ 69 (by omega)) (by simp [go_sem, numDt]) ?_)
  simp -implicitDefEqProofs (disch := omega) [go_sem, hd0, hd1, re0, re1, numDt]
  refine .inl (call_data (fourI_pc Γ g (by omega)) (by simp [go_sem, numDt]) ?_)
  simp -implicitDefEqProofs (disch := omega) [go_sem, hd0, hd1, re0, re1, numDt]
  refine .inl (call_data (oneI_pc Γ s (by omega)) (by simp [go_sem, numDt]) ?_)
  simp -implicitDefEqProofs (disch := omega) [go_sem, hd0, hd1, re0, re1, numDt]
  refine .inl (call_data (oneI_pc Γ k (by omega)) (by simp [go_sem, numDt]) ?_)
  simp -implicitDefEqProofs (disch := omega) [go_sem, hd0, hd1, re0, re1, numDt]
  refine .inl (call_data (fourI_pc Γ i (by omega)) (by simp [go_sem, numDt]) ?_)
  simp -implicitDefEqProofs (disch := omega) [go_sem, hd0, hd1, re0, re1, numDt]
  refine .inl (call_data (oneI_pc Γ l (by omega)) (by simp [go_sem, numDt]) ?_)
  simp -implicitDefEqProofs (disch := omega) [go_sem, hd0, hd1, re0, re1, numDt]
  refine .inl (call_data (fourU_pc Γ a (by omega)) (by simp [go_sem, numDt]) ?_)
  simp -implicitDefEqProofs (disch := omega) [go_sem, hd0, hd1, re0, re1, numDt]
  refine .inl (call_data (eight_pc Γ n) (by simp [go_sem, numDt]) ?_)
  simp -implicitDefEqProofs (disch := omega) [go_sem, hd0, hd1, re0, re1, numDt]
  refine .inl (call_data (eight_pc Γ t) (by simp [go_sem, numDt]) ?_)
  simp -implicitDefEqProofs (disch := omega) [go_sem, hd0, hd1, re0, re1, numDt]
  refine .inl (call_data (oneI_pc Γ c (by omega)) (by simp [go_sem, numDt]) ?_)
  simp -implicitDefEqProofs (disch := omega) [go_sem, hd0, hd1, re0, re1, numDt]
  refine .inl (call_data (fourI_pc Γ z (by omega)) (by simp [go_sem, numDt]) ?_)
  simp -implicitDefEqProofs (disch := omega) [go_sem, hd0, hd1, re0, re1, numDt]
  refine side (by kernel_rfl) ?_
  simp -implicitDefEqProofs (disch := omega) [go_sem, Try.f30]
  exact ⟨_, ⟨_, rfl, frz_parts (l := recW g s ⟨k, i, l, a, u, n, t, c, z⟩) rfl rfl⟩, rfl⟩
theorem recParts2_pc {g s : Int} {o : Op} (h : RecFit g s o) : PC Try.prog Γ 30 [recD g s o] (.sl 1 (parts (recW g s o))) := by
  obtain ⟨hg, hs, ho⟩ := h
  obtain ⟨k, i, l, a, u, n, t, c, z⟩ := o
  obtain ⟨h1, h2, h3, h4, h5, h6, h7, h8, h9⟩ := ho
  simp only [Fit] at *
  obtain ⟨g, rfl⟩ : ∃ x : Nat, g = x := ⟨g.toNat, by omega⟩
  obtain ⟨s, rfl⟩ : ∃ x : Nat, s = x := ⟨s.toNat, by omega⟩
  obtain ⟨k, rfl⟩ : ∃ x : Nat, k = x := ⟨k.toNat, by omega⟩
  obtain ⟨i, rfl⟩ : ∃ x : Nat, i = x := ⟨i.toNat, by omega⟩
  obtain ⟨l, rfl⟩ : ∃ x : Nat, l = x := ⟨l.toNat, by omega⟩
  obtain ⟨a, rfl⟩ : ∃ x : Nat, a = x := ⟨a.toNat, by omega⟩
  obtain ⟨n, rfl⟩ : ∃ x : Nat, n = x := ⟨n.toNat, by omega⟩
  obtain ⟨t, rfl⟩ : ∃ x : Nat, t = x := ⟨t.toNat, by omega⟩
  obtain ⟨c, rfl⟩ : ∃ x : Nat, c = x := ⟨c.toNat, by omega⟩
  obtain ⟨z, rfl⟩ : ∃ x : Nat, z = x := ⟨z.toNat, by omega⟩
  exact recParts_pc Γ g s k i l a n t c z u (by omega) (by omega) (by omega) (by omega) (by omega) (by omega) (by omega) (by omega) (by omega) (by omega)
def recB (g s : Int) (o : Op) : List Nat := be 1 82 ++ (be 1 69 ++ (be 4 g.toNat ++ (be 1 s.toNat ++ opB o)))
theorem recW_bytes (g s : Int) (o : Op) : (recW g s o).flatMap partB = recB g s o := by simp [recW, recB, opB, partB, List.append_assoc]
theorem recW_ok {g s : Int} {o : Op} (h : RecFit g s o) : ∀ p ∈ recW g s o, PartOk p := by
  obtain ⟨hg, hs, ho⟩ := h
  obtain ⟨h1, h2, h3, h4, h5, h6, h7, h8, h9⟩ := ho
  simp only [Fit] at *
  intro p hp
  simp only [recW, List.mem_cons, List.not_mem_nil, or_false] at hp
  rcases hp with rfl | rfl | rfl | rfl | rfl | rfl | rfl | rfl | rfl | rfl | rfl | rfl | rfl <;> simp only [PartOk] <;> omega
theorem recB_length {g s : Int} {o : Op} (h : RecFit g s o) : (recB g s o).length = 55 := by
  simp [recB, opB, be_length, nameB_length h.op.user]
def RecP (g s : Int) (o : Op) : Prop := (1 ≤ g ∧ g ≤ 1000000000) ∧ (0 ≤ s ∧ s < 30) ∧ MayP o
instance (g s : Int) (o : Op) : Decidable (RecP g s o) := by unfold RecP; infer_instance
structure OpRange (o : Op) : Prop where
  addr : 0 ≤ o.addr ∧ o.addr < 4294967296
  inn : 0 ≤ o.inn ∧ o.inn < 18446744073709551616
  out : 0 ≤ o.out ∧ o.out < 18446744073709551616
theorem RecP.fit {g s : Int} {o : Op} (h : RecP g s o) (r : OpRange o) : RecFit g s o := by
  obtain ⟨r1, r2, r3⟩ := r
  unfold RecP MayP at h
  refine ⟨?_, ?_, ?_, ?_, ?_, ?_, ?_, ?_, ?_, ?_, ?_⟩ <;> (try unfold Fit) <;> omega
set_option maxHeartbeats 4000000 in
theorem recMay_pc (g s : Int) (o : Op) : PC Try.prog Γ 28 [recD g s o] (.bool (decide (RecP g s o))) := by
  refine pc_by mixed Try.func28 rfl (fun args w => Try.call28 args w) ?_
  have cg := isGen_pc Γ g
  have cm := may2_pc Γ o
  unfold recD
  simp -implicitDefEqProofs (disch := omega) [go_sem]
  refine .inl (call_data cg (by simp [go_sem]) ?_)
  by_cases h1 : 1 ≤ g ∧ g ≤ 1000000000
  rotate_left
  · have hno : ¬ RecP g s o := fun hk => by unfold RecP at hk; omega
    simp -implicitDefEqProofs (disch := omega) [go_sem, decide_eq_false h1, decide_eq_false hno, Try.f28]
  rw [decide_eq_true h1]
  by_cases h2 : 0 ≤ s
  rotate_left
  · have hno : ¬ RecP g s o := fun hk => by unfold RecP at hk; omega
    simp -implicitDefEqProofs (disch := omega) [go_sem, h2, decide_eq_false hno, Try.f28]
  by_cases h3 : s < 30
  rotate_left
  · have hno : ¬ RecP g s o := fun hk => by unfold RecP at hk; omega
    simp -implicitDefEqProofs (disch := omega) [go_sem, h2, h3, decide_eq_false hno, Try.f28]
  simp -implicitDefEqProofs (disch := omega) [go_sem, h2, h3]
  refine .inl (call_data cm (by simp [go_sem, op]) ?_)
  have e : decide (RecP g s o) = decide (MayP o) := by
    rw [decide_eq_decide]
    exact ⟨fun h => h.2.2, fun h => ⟨h1, ⟨h2, h3⟩, h⟩⟩
  rw [e]
  simp -implicitDefEqProofs (disch := omega) [go_sem, Try.f28]
set_option maxHeartbeats 4000000 in
theorem opBytes_pc (g s : Int) (o : Op) (hr : OpRange o) : PC Try.prog Γ 11 [.int .i64 g, .int .i64 s, op o] (if RecP g s o then .tup [.sl 1 (bys (padB 128 (recB g s o))), .int .i64 0] else .tup [.sl 1 [], .int .i64 1]) := by
  refine pc_by mixed Try.func11 rfl (fun args w => Try.call11 args w) ?_
  have cm := recMay_pc Γ g s o
  unfold op
  simp -implicitDefEqProofs (disch := omega) [go_sem]
  refine .inl (call_data cm (by simp [go_sem, recD]) ?_)
  by_cases h : RecP g s o
  · rw [decide_eq_true h, if_pos h]
    have hf := h.fit hr
    simp -implicitDefEqProofs (disch := omega) [go_sem]
    refine .inl (call_data (recParts2_pc Γ hf) (by simp [go_sem, recD]) ?_)
    simp -implicitDefEqProofs (disch := omega) [go_sem]
    have hl := laid_pc Γ 128 (recW g s o) (recW_ok hf) (by rw [recW_bytes, recB_length hf]; omega) (by omega) (by simp [recW])
    rw [recW_bytes] at hl
    refine .inl (call_data hl (by simp [go_sem]) ?_)
    simp -implicitDefEqProofs (disch := omega) [go_sem, Try.f11]
  · rw [decide_eq_false h, if_neg h]
    simp -implicitDefEqProofs (disch := omega) [go_sem, Try.f11]
    exact ⟨_, ⟨_, rfl, .emp ..⟩, rfl⟩
end
end Bk
end Go.Proofs.Ytdgklbbgbnapoaa
namespace Go.Proofs.Ytdgklbbgbnapoaa
open Go.RowKit
set_option linter.unusedVariables false
set_option linter.unusedSimpArgs false
set_option maxRecDepth 100000
namespace Bk
section
variable (Γ : Nat → Option (List Data))
def uRE : ByteArray := ⟨#[82, 69]⟩
theorem uRE_size : uRE.size = 2 := rfl
def recordP (l : List Nat) : Option ((Nat × Nat × Op) × List Nat) := if l.length = 128 then bnd (letP uRE l) fun _ l => bnd (numP 4 l) fun g l => bnd (numP 1 l) fun s l => bnd (opP l) fun o l => if RecP g s o ∧ ∀ x ∈ l, x = 0 then some ((g, s, o), l) else none else none
theorem opP_rest {l : List Nat} (hl : Bytes l) {o : Op} {r : List Nat} (h : opP l = some (o, r)) : Bytes r ∧ r.length ≤ l.length := by
  obtain ⟨rfl, _⟩ := (opP_iff hl o r).1 h
  exact ⟨(bytes_app.1 hl).2, by simp⟩
set_option maxHeartbeats 8000000 in
theorem record_rd (l : List Nat) (hl : l.length ≤ 1000000) (hb : Bytes l) : RD Γ 35 [] l (mapD (recordP l) fun x => recD x.1 x.2.1 x.2.2) := by
  refine dx_by mixed Try.func35 rfl (fun args w => Try.call35 args w) ?_
  by_cases h128 : l.length = 128
  rotate_left
  · simp -implicitDefEqProofs (disch := omega) [go_sem]
    refine .inr (.inr (need_dx Γ false (fun e => by cases e) (fun _ => ?_)))
    simp -implicitDefEqProofs (disch := omega) [go_sem]
    exact rdX (l' := l) rfl (by simp [go_sem]) (by simp [mapD, recordP, h128])
  simp -implicitDefEqProofs (disch := omega) [go_sem]
  refine .inr (.inr (need_dx Γ true (fun _ => ?_) (fun e => by cases e)))
  simp -implicitDefEqProofs (disch := omega) [go_sem]
  refine .inr (.inr (rd_lent (letters_rd Γ l hl hb uRE (by rw [uRE_size]; omega)) (by simp [go_sem]) (by simp) (fun r l1 hp => ?_) (fun hp l' => ?_)))
  rotate_left
  · simp -implicitDefEqProofs (disch := omega) [go_sem]
    exact rdX (l' := l') rfl (by simp [go_sem]) (by simp [mapD, recordP, h128, bnd, hp])
  have h1 := hp
  obtain ⟨rfl, e1, _, _⟩ := letP_rest hp
  clear hp
  have hb1 : Bytes l1 := by rw [e1]; exact fun x hx => hb x (List.mem_of_mem_drop hx)
  have hl1 : l1.length ≤ 1000000 := by rw [e1, List.length_drop]; omega
  clear e1
  simp -implicitDefEqProofs (disch := omega) [go_sem]
  refine .inr (.inr (rd_lent (small_rd Γ l1 hl1 hb1 4 (by omega)) (by simp [go_sem]) (by simp) (fun r l2 hp => ?_) (fun hp l' => ?_)))
  rotate_left
  · rw [numD_none] at hp
    simp -implicitDefEqProofs (disch := omega) [go_sem]
    exact rdX (l' := l') rfl (by simp [go_sem]) (by simp [mapD, recordP, h128, bnd, h1, hp])
  obtain ⟨g, h2, rfl⟩ := numD_some.1 hp
  clear hp
  have hl2 : l2.length ≤ 1000000 := Nat.le_trans (numP_len h2) hl1
  have hb2 := bytes_rest hb1 h2
  simp -implicitDefEqProofs (disch := omega) [go_sem]
  refine .inr (.inr (rd_lent (small_rd Γ l2 hl2 hb2 1 (by omega)) (by simp [go_sem]) (by simp) (fun r l3 hp => ?_) (fun hp l' => ?_)))
  rotate_left
  · rw [numD_none] at hp
    simp -implicitDefEqProofs (disch := omega) [go_sem]
    exact rdX (l' := l') rfl (by simp [go_sem]) (by simp [mapD, recordP, h128, bnd, h1, h2, hp])
  obtain ⟨s, h3, rfl⟩ := numD_some.1 hp
  clear hp
  have hl3 : l3.length ≤ 1000000 := Nat.le_trans (numP_len h3) hl2
  have hb3 := bytes_rest hb2 h3
  simp -implicitDefEqProofs (disch := omega) [go_sem]
  refine .inr (.inr (rd_lent (op_rd Γ l3 hl3 hb3) (by simp [go_sem]) (by simp) (fun r l4 hp => ?_) (fun hp l' => ?_)))
  rotate_left
  · rw [mapD_none] at hp
    simp -implicitDefEqProofs (disch := omega) [go_sem]
    exact rdX (l' := l') rfl (by simp [go_sem]) (by simp [mapD, recordP, h128, bnd, h1, h2, h3, hp])
  obtain ⟨o, h4, rfl⟩ := mapD_some.1 hp
  clear hp
  have hl4 : l4.length ≤ 1000000 := Nat.le_trans (opP_rest hb3 h4).2 hl3
  have hrp : recordP l = if RecP g s o ∧ ∀ x ∈ l4, x = 0 then some ((g, s, o), l4) else none := by simp only [recordP, h128, bnd, h1, h2, h3, h4, if_true]
  clear h1 h2 h3 h4
  have cm := recMay_pc Γ g s o
  unfold op
  simp -implicitDefEqProofs (disch := omega) [go_sem]
  refine .inl (call_data cm (by simp [go_sem, recD]) ?_)
  by_cases hg : RecP g s o
  rotate_left
  · rw [decide_eq_false hg]
    simp -implicitDefEqProofs (disch := omega) [go_sem]
    refine .inr (.inr (need_dx Γ false (fun e => by cases e) (fun _ => ?_)))
    simp -implicitDefEqProofs (disch := omega) [go_sem]
    exact rdX (l' := l4) rfl (by simp [go_sem]) (by rw [hrp, if_neg fun e => hg e.1]; rfl)
  rw [decide_eq_true hg]
  simp -implicitDefEqProofs (disch := omega) [go_sem]
  refine .inr (.inr (need_dx Γ true (fun _ => ?_) (fun e => by cases e)))
  simp -implicitDefEqProofs (disch := omega) [go_sem]
  obtain ⟨v, hv⟩ : ∃ v : Bool, v = true ↔ ∀ x ∈ l4, x = 0 := by classical exact ⟨decide (∀ x ∈ l4, x = 0), by simp⟩
  refine .inr (.inr (rd_lent (end_rd Γ l4 hl4 hv) (by simp [go_sem]) (by simp) (fun r l5 hp => ?_) (fun hp l' => ?_)))
  rotate_left
  · have hv0 : ¬ ∀ x ∈ l4, x = 0 := fun e => by rw [hv.2 e, if_pos rfl] at hp; cases hp
    simp -implicitDefEqProofs (disch := omega) [go_sem]
    exact rdX (l' := l') rfl (by simp [go_sem]) (by rw [hrp, if_neg fun e => hv0 e.2]; rfl)
  split at hp
  rotate_left
  · cases hp
  rename_i hv1
  simp only [Option.some.injEq, Prod.mk.injEq] at hp
  obtain ⟨rfl, rfl⟩ := hp
  simp -implicitDefEqProofs (disch := omega) [go_sem, Try.f35]
  exact rdK (l' := l4) (by simp [go_sem]) (by rw [hrp, if_pos ⟨hg, hv.1 hv1⟩]; rfl)
theorem clRec_nil {g : Nat} {H : Nat → Blk} {nx : Nat} {K : (Nat → Blk) → Nat → Prop} (hk : K H (nx + 2)) : DR Try.prog Γ 59 [.ptr g 0] .nili H nx K := by
  refine dr_by mixed Try.func59 rfl rfl (fun args w => Try.call59 args w) (by decide) (by decide) ?_
  simp -implicitDefEqProofs (disch := omega) [go_sem]
  refine eqK_nil any_interface ?_
  simp -implicitDefEqProofs (disch := omega) [go_sem, hk]
theorem clRec_err {g : Nat} {H : Nat → Blk} {nx : Nat} {x : D} {K : (Nat → Blk) → Nat → Prop} (hg : H g = .blk true [x]) (hk : K (Hp.upd H [(g, .blk true [.data (.int .i64 2)])]) (nx + 5)) : DR Try.prog Γ 59 [.ptr g 0] errD H nx K := by
  refine dr_by mixed Try.func59 rfl rfl (fun args w => Try.call59 args w) (by decide) (by decide) ?_
  unfold errD
  simp -implicitDefEqProofs (disch := omega) [go_sem]
  refine eqK_ifc any_interface ?_
  simp -implicitDefEqProofs (disch := omega) [go_sem, hg]
  exact hk
def noOp : Op := ⟨0, 0, 0, 0, ByteArray.empty, 0, 0, 0, 0⟩
def gotG (p : Option ((Nat × Nat × Op) × List Nat)) : Int × Int × Op := match p with
  | some ((g, s, o), _) => (g, s, o)
  | none => (0, 0, noOp)
set_option maxHeartbeats 2000000 in
theorem triedRec_pc {f : FuncId} (l : List Nat) (p : Option ((Nat × Nat × Op) × List Nat)) (h : RD Γ f [] l (mapD p fun x => recD x.1 x.2.1 x.2.2)) : PC Try.prog Γ 34 [.sl 1 (bys l), .fn f []] (.tup [recD (gotG p).1 (gotG p).2.1 (gotG p).2.2, .int .i64 (gotE p)]) := by
  refine pc_def_by mixed Try.func34 rfl (fun args w => Try.call34 args w) (by decide) ?_
  simp -implicitDefEqProofs (disch := omega) [go_sem]
  refine .inr (.inr (rd_lent h (by simp [go_sem]) (by simp) (fun r l' hp => ?_) (fun hp l' => ?_)))
  · obtain ⟨⟨g, s, o⟩, hp2, rfl⟩ := mapD_some.1 hp
    unfold recD
    simp -implicitDefEqProofs (disch := omega) [go_sem]
    refine clRec_nil Γ ?_
    simp -implicitDefEqProofs (disch := omega) [go_sem, Try.f34, hp2, gotG, gotE]
  · rw [mapD_none] at hp
    simp -implicitDefEqProofs (disch := omega) [go_sem]
    refine bodyR_panic (x := .int .i64 2) rfl (clRec_err Γ (by simp [go_sem]; rfl) ?_)
    simp -implicitDefEqProofs (disch := omega) [go_sem, Try.f34, hp, gotG, gotE, recD, noOp]
set_option maxHeartbeats 2000000 in
theorem readOp_pc (l : List Nat) (hl : l.length ≤ 1000000) (hb : Bytes l) : PC Try.prog Γ 13 [.sl 1 (bys l)] (.tup [.int .i64 (gotG (recordP l)).1, .int .i64 (gotG (recordP l)).2.1, op (gotG (recordP l)).2.2, .int .i64 (gotE (recordP l))]) := by
  refine pc_by mixed Try.func13 rfl (fun args w => Try.call13 args w) ?_
  have ct := triedRec_pc Γ l (recordP l) (record_rd Γ l hl hb)
  generalize recordP l = p at *
  simp -implicitDefEqProofs (disch := omega) [go_sem]
  refine .inl (call_data ct (by simp [go_sem]) ?_)
  unfold recD op
  simp -implicitDefEqProofs (disch := omega) [go_sem]
  refine side (by kernel_rfl) ?_
  simp -implicitDefEqProofs (disch := omega) [go_sem, Try.f13]
end
end Bk
end Go.Proofs.Ytdgklbbgbnapoaa
namespace Go.Proofs.Ytdgklbbgbnapoaa
open Go.RowKit
set_option linter.unusedVariables false
set_option linter.unusedSimpArgs false
set_option maxRecDepth 100000
namespace Bk
section
variable (Γ : Nat → Option (List Data))
def numI (k : Nat) (x : Int) : Data := .agg [.int .i64 k, .int .u64 x]
theorem one_fit {x : Int} (h : Fit 1 x) : PC Try.prog Γ 56 [.int .i64 x] (numI 1 x) := by
  obtain ⟨n, rfl⟩ : ∃ n : Nat, x = n := ⟨x.toNat, by unfold Fit at h; omega⟩
  unfold Fit at h
  exact oneI_pc Γ n (by omega)
theorem four_fit {x : Int} (h : Fit 4 x) : PC Try.prog Γ 55 [.int .i64 x] (numI 4 x) := by
  obtain ⟨n, rfl⟩ : ∃ n : Nat, x = n := ⟨x.toNat, by unfold Fit at h; omega⟩
  unfold Fit at h
  exact fourI_pc Γ n (by omega)
theorem fourU_fit {x : Int} (h : Fit 4 x) : PC Try.prog Γ 57 [.int .u32 x] (numI 4 x) := by
  obtain ⟨n, rfl⟩ : ∃ n : Nat, x = n := ⟨x.toNat, by unfold Fit at h; omega⟩
  unfold Fit at h
  exact fourU_pc Γ n (by omega)
theorem eight_fit {x : Int} (h : Fit 8 x) : PC Try.prog Γ 58 [.int .u64 x] (numI 8 x) := by
  obtain ⟨n, rfl⟩ : ∃ n : Nat, x = n := ⟨x.toNat, by unfold Fit at h; omega⟩
  exact eight_pc Γ n
theorem part_num {k : Nat} {x : Int} (h : Fit k x) : Data.ifc 112 (.agg [.int .i64 k, .int .u64 x]) = partD (.num k x.toNat) := by
  show _ = Data.ifc 112 (.agg [.int .i64 k, .int .u64 ((x.toNat : Nat) : Int)])
  rw [h.eq]
theorem part1 {x : Int} (h : Fit 1 x) : Data.ifc 112 (.agg [.int .i64 1, .int .u64 x]) = partD (.num 1 x.toNat) := part_num h
theorem part4 {x : Int} (h : Fit 4 x) : Data.ifc 112 (.agg [.int .i64 4, .int .u64 x]) = partD (.num 4 x.toNat) := part_num h
theorem part8 {x : Int} (h : Fit 8 x) : Data.ifc 112 (.agg [.int .i64 8, .int .u64 x]) = partD (.num 8 x.toNat) := part_num h
def sessW (s : Sess) : List Part := [.num 4 s.id.toNat, .num 1 s.link.toNat, .num 4 s.addr.toNat, .nam s.user, .num 8 s.inn.toNat, .num 8 s.out.toNat]
def itemW (x : Item) : List Part := [.num 1 x.kind.toNat, .num 4 x.id.toNat, .num 8 x.inn.toNat, .num 8 x.out.toNat, .num 1 x.cause.toNat]
def lockW (x : Lock) : List Part := [.nam x.user, .num 1 x.n.toNat, .num 4 x.at_.toNat]
def frontW (b : Book) : List Part := [.num 4 b.next.toNat, .num 1 b.opn.length, .num 1 b.items.length, .num 1 b.locks.length]
def bookW (b : Book) : List Part := frontW b ++ b.opn.flatMap sessW ++ b.items.flatMap itemW ++ b.locks.flatMap lockW
structure BookFit (b : Book) : Prop where
  next : Fit 4 b.next
  nopn : b.opn.length < 256
  nitems : b.items.length < 256
  nlocks : b.locks.length < 256
  opn : ∀ s ∈ b.opn, SessFit s
  items : ∀ x ∈ b.items, ItemFit x
  locks : ∀ x ∈ b.locks, LockFit x
theorem sessW_length : ∀ l : List Sess, (l.flatMap sessW).length = 6 * l.length
  | [] => rfl
  | x :: l => by rw [List.flatMap_cons, List.length_append, sessW_length l]; simp [sessW]; omega
theorem itemW_length : ∀ l : List Item, (l.flatMap itemW).length = 5 * l.length
  | [] => rfl
  | x :: l => by rw [List.flatMap_cons, List.length_append, itemW_length l]; simp [itemW]; omega
theorem lockW_length : ∀ l : List Lock, (l.flatMap lockW).length = 3 * l.length
  | [] => rfl
  | x :: l => by rw [List.flatMap_cons, List.length_append, lockW_length l]; simp [lockW]; omega
theorem front_length (b : Book) : (frontW b).length = 4 := rfl
set_option maxHeartbeats 8000000 in
theorem bookParts_pc (b : Book) (hf : BookFit b) : PC Try.prog Γ 39 [book b] (.sl 1 (parts (bookW b))) := by
  refine pc_by mixed Try.func39 rfl (fun args w => Try.call39 args w) ?_
  obtain ⟨q0, q1, q2, q3, q4, q5, q6⟩ := hf
  have c0 := four_fit Γ q0
  have c1 := one_fit Γ (x := b.opn.length) ⟨by omega, by omega⟩
  have c2 := one_fit Γ (x := b.items.length) ⟨by omega, by omega⟩
  have c3 := one_fit Γ (x := b.locks.length) ⟨by omega, by omega⟩
  unfold book
  simp -implicitDefEqProofs (disch := omega) [go_sem, numI]
  refine .inl (call_data c0 (by simp [go_sem, numI]) ?_)
  simp -implicitDefEqProofs (disch := omega) [go_sem, numI]
  refine .inl (call_data c1 (by simp [go_sem, numI]) ?_)
  simp -implicitDefEqProofs (disch := omega) [go_sem, numI]
  refine .inl (call_data c2 (by simp [go_sem, numI]) ?_)
  simp -implicitDefEqProofs (disch := omega) [go_sem, numI]
  refine .inl (call_data c3 (by simp [go_sem, numI]) ?_)
  simp -implicitDefEqProofs (disch := omega) [go_sem, numI]
  refine side (by kernel_rfl) ?_
  simp -implicitDefEqProofs (disch := omega) [go_sem]
  have hw1 : ∀ i : Nat, (frontW b ++ (b.opn.take i).flatMap sessW).length ≤ 6000 := fun i => by
    have h4 := front_length b
    simp only [List.length_append, sessW_length, List.length_take] at h4 ⊢; omega
  refine loop_ren (σ := { i : Nat // i ≤ b.opn.length }) (fun i => ⟨envL [(1, .ptr 0 0), (3, .ref 1 0 (frontW b ++ (b.opn.take i.1).flatMap sessW).length 1), (31, .data (.sl 6 (sesss b.opn))), (32, .data (.int .i64 b.opn.length)), (33, .data (.int .i64 i.1))], hpL [(0, .blk true [.data (.int .i64 b.next), .data (.sl 6 (sesss b.opn)), .data (.sl 5 (items b.items)), .data (.sl 3 (locks b.locks))]), (1, .blk true ((parts (frontW b ++ (b.opn.take i.1).flatMap sessW)).map D.data))], 2, 0, 118⟩) (fun i => b.opn.length - i.1) ⟨0, by omega⟩ [] (rhoL [(0, some 0), (1, some 21)]) ?_ ?_
  · apply ren_lists <;> simp -implicitDefEqProofs [go_sem]
    · rfl
    · rw [part4 q0]
      exact renCells_plain rfl (by simp [plainD])
  rintro ⟨i, hi⟩
  by_cases h : i < b.opn.length
  · have hwi := hw1 i
    have hs : (b.opn.take (i + 1)).flatMap sessW = (b.opn.take i).flatMap sessW ++ sessW b.opn[i] := by
      rw [List.take_succ_eq_append_getElem h, List.flatMap_append]
      simp
    have hs2 : frontW b ++ (b.opn.take (i + 1)).flatMap sessW = (frontW b ++ (b.opn.take i).flatMap sessW) ++ sessW b.opn[i] := by rw [hs, List.append_assoc]
    generalize hqw : frontW b ++ (b.opn.take i).flatMap sessW = pw at *
    obtain ⟨f1, f2, f3, f4, f5, f6⟩ := q4 _ (List.getElem_mem h)
    generalize hsi : b.opn[i] = s at *
    have d0 := four_fit Γ f1
    have d1 := one_fit Γ f2
    have d2 := fourU_fit Γ f3
    have d3 := eight_fit Γ f5
    have d4 := eight_fit Γ f6
    simp -implicitDefEqProofs (disch := omega) [go_sem, hsi, sess]
    refine .inl (call_data d0 (by simp [go_sem, numI]) ?_)
    simp -implicitDefEqProofs (disch := omega) [go_sem, numI]
    refine .inl (call_data d1 (by simp [go_sem, numI]) ?_)
    simp -implicitDefEqProofs (disch := omega) [go_sem, numI]
    refine .inl (call_data d2 (by simp [go_sem, numI]) ?_)
    simp -implicitDefEqProofs (disch := omega) [go_sem, numI]
    refine .inl (call_data d3 (by simp [go_sem, numI]) ?_)
    simp -implicitDefEqProofs (disch := omega) [go_sem, numI]
    refine .inl (call_data d4 (by simp [go_sem, numI]) ?_)
    simp -implicitDefEqProofs (disch := omega) [go_sem, numI]
    refine side (by kernel_rfl) ?_
    simp -implicitDefEqProofs (disch := omega) [go_sem]
    refine next_ren ⟨i + 1, by omega⟩ (by simp only; omega) [] (rhoL [(0, some 0), (1, some 32)]) ?_
    rw [part4 f1, part1 f2, part4 f3, part8 f5, part8 f6]
    apply ren_lists <;> simp -implicitDefEqProofs [go_sem, hs2]
    · rfl
    · rw [show parts (pw ++ sessW s) = parts pw ++ parts (sessW s) by simp [parts], List.map_append]
      exact renCells_plain rfl (by simp [plainD])
  have : i = b.opn.length := by omega
  subst this
  have hwi := hw1 b.opn.length
  have hpl1 : (frontW b ++ b.opn.flatMap sessW).length ≤ 6000 := by rw [List.take_length] at hwi; exact hwi
  simp only [List.take_length] at hwi ⊢
  have hq1 : (frontW b ++ b.opn.flatMap sessW).length ≤ 4 + 6 * 256 := by
    have h4 := front_length b
    rw [List.length_append, sessW_length]; omega
  unfold bookW
  generalize frontW b ++ b.opn.flatMap sessW = p1 at *
  simp -implicitDefEqProofs (disch := omega) [go_sem]
  have hw2 : ∀ i : Nat, (p1 ++ (b.items.take i).flatMap itemW).length ≤ 6000 := fun i => by
    have h4 := hq1
    simp only [List.length_append, itemW_length, List.length_take] at h4 ⊢; omega
  refine loop_ren (σ := { i : Nat // i ≤ b.items.length }) (fun i => ⟨envL [(1, .ptr 0 0), (3, .ref 1 0 (p1 ++ (b.items.take i.1).flatMap itemW).length 1), (65, .data (.sl 5 (items b.items))), (66, .data (.int .i64 b.items.length)), (67, .data (.int .i64 i.1))], hpL [(0, .blk true [.data (.int .i64 b.next), .data (.sl 6 (sesss b.opn)), .data (.sl 5 (items b.items)), .data (.sl 3 (locks b.locks))]), (1, .blk true ((parts (p1 ++ (b.items.take i.1).flatMap itemW)).map D.data))], 2, 0, 118⟩) (fun i => b.items.length - i.1) ⟨0, by omega⟩ [] (rhoL [(0, some 0), (1, some 1)]) ?_ ?_
  · apply ren_lists <;> simp -implicitDefEqProofs [go_sem]
    all_goals exact renCells_plain rfl (by simp [plainD])
  rintro ⟨i, hi⟩
  by_cases h : i < b.items.length
  · have hwi := hw2 i
    have hs : (b.items.take (i + 1)).flatMap itemW = (b.items.take i).flatMap itemW ++ itemW b.items[i] := by
      rw [List.take_succ_eq_append_getElem h, List.flatMap_append]
      simp
    have hs2 : p1 ++ (b.items.take (i + 1)).flatMap itemW = (p1 ++ (b.items.take i).flatMap itemW) ++ itemW b.items[i] := by rw [hs, List.append_assoc]
    generalize hqw : p1 ++ (b.items.take i).flatMap itemW = pw at *
    obtain ⟨f1, f2, f3, f4, f5⟩ := q5 _ (List.getElem_mem h)
    generalize hsi : b.items[i] = s at *
    have d0 := one_fit Γ f1
    have d1 := four_fit Γ f2
    have d2 := eight_fit Γ f3
    have d3 := eight_fit Γ f4
    have d4 := one_fit Γ f5
    simp -implicitDefEqProofs (disch := omega) [go_sem, hsi, item]
    refine .inl (call_data d0 (by simp [go_sem, numI]) ?_)
    simp -implicitDefEqProofs (disch := omega) [go_sem, numI]
    refine .inl (call_data d1 (by simp [go_sem, numI]) ?_)
    simp -implicitDefEqProofs (disch := omega) [go_sem, numI]
    refine .inl (call_data d2 (by simp [go_sem, numI]) ?_)
    simp -implicitDefEqProofs (disch := omega) [go_sem, numI]
    refine .inl (call_data d3 (by simp [go_sem, numI]) ?_)
    simp -implicitDefEqProofs (disch := omega) [go_sem, numI]
    refine .inl (call_data d4 (by simp [go_sem, numI]) ?_)
    simp -implicitDefEqProofs (disch := omega) [go_sem, numI]
    refine side (by kernel_rfl) ?_
    simp -implicitDefEqProofs (disch := omega) [go_sem]
    refine next_ren ⟨i + 1, by omega⟩ (by simp only; omega) [] (rhoL [(0, some 0), (1, some 29)]) ?_
    rw [part1 f1, part4 f2, part8 f3, part8 f4, part1 f5]
    apply ren_lists <;> simp -implicitDefEqProofs [go_sem, hs2]
    · rfl
    · rw [show parts (pw ++ itemW s) = parts pw ++ parts (itemW s) by simp [parts], List.map_append]
      exact renCells_plain rfl (by simp [plainD])
  have : i = b.items.length := by omega
  subst this
  have hwi := hw2 b.items.length
  have hpl2 : (p1 ++ b.items.flatMap itemW).length ≤ 6000 := by rw [List.take_length] at hwi; exact hwi
  simp only [List.take_length] at hwi ⊢
  have hq2 : (p1 ++ b.items.flatMap itemW).length ≤ 4 + 11 * 256 := by
    rw [List.length_append, itemW_length]; omega
  generalize p1 ++ b.items.flatMap itemW = p2 at *
  simp -implicitDefEqProofs (disch := omega) [go_sem]
  have hw3 : ∀ i : Nat, (p2 ++ (b.locks.take i).flatMap lockW).length ≤ 6000 := fun i => by
    have h4 := hq2
    simp only [List.length_append, lockW_length, List.length_take] at h4 ⊢; omega
  refine loop_ren (σ := { i : Nat // i ≤ b.locks.length }) (fun i => ⟨envL [(1, .ptr 0 0), (3, .ref 1 0 (p2 ++ (b.locks.take i.1).flatMap lockW).length 1), (96, .data (.sl 3 (locks b.locks))), (97, .data (.int .i64 b.locks.length)), (98, .data (.int .i64 i.1))], hpL [(0, .blk true [.data (.int .i64 b.next), .data (.sl 6 (sesss b.opn)), .data (.sl 5 (items b.items)), .data (.sl 3 (locks b.locks))]), (1, .blk true ((parts (p2 ++ (b.locks.take i.1).flatMap lockW)).map D.data))], 2, 0, 118⟩) (fun i => b.locks.length - i.1) ⟨0, by omega⟩ [] (rhoL [(0, some 0), (1, some 1)]) ?_ ?_
  · apply ren_lists <;> simp -implicitDefEqProofs [go_sem]
    all_goals exact renCells_plain rfl (by simp [plainD])
  rintro ⟨i, hi⟩
  by_cases h : i < b.locks.length
  · have hwi := hw3 i
    have hs : (b.locks.take (i + 1)).flatMap lockW = (b.locks.take i).flatMap lockW ++ lockW b.locks[i] := by
      rw [List.take_succ_eq_append_getElem h, List.flatMap_append]
      simp
    have hs2 : p2 ++ (b.locks.take (i + 1)).flatMap lockW = (p2 ++ (b.locks.take i).flatMap lockW) ++ lockW b.locks[i] := by rw [hs, List.append_assoc]
    generalize hqw : p2 ++ (b.locks.take i).flatMap lockW = pw at *
    obtain ⟨f1, f2, f3⟩ := q6 _ (List.getElem_mem h)
    generalize hsi : b.locks[i] = s at *
    have d0 := one_fit Γ f2
    have d1 := four_fit Γ f3
    simp -implicitDefEqProofs (disch := omega) [go_sem, hsi, lock]
    refine .inl (call_data d0 (by simp [go_sem, numI]) ?_)
    simp -implicitDefEqProofs (disch := omega) [go_sem, numI]
    refine .inl (call_data d1 (by simp [go_sem, numI]) ?_)
    simp -implicitDefEqProofs (disch := omega) [go_sem, numI]
    refine side (by kernel_rfl) ?_
    simp -implicitDefEqProofs (disch := omega) [go_sem]
    refine next_ren ⟨i + 1, by omega⟩ (by simp only; omega) [] (rhoL [(0, some 0), (1, some 20)]) ?_
    rw [part1 f2, part4 f3]
    apply ren_lists <;> simp -implicitDefEqProofs [go_sem, hs2]
    · rfl
    · rw [show parts (pw ++ lockW s) = parts pw ++ parts (lockW s) by simp [parts], List.map_append]
      exact renCells_plain rfl (by simp [plainD])
  have : i = b.locks.length := by omega
  subst this
  have hwi := hw3 b.locks.length
  have hpl3 : (p2 ++ b.locks.flatMap lockW).length ≤ 6000 := by rw [List.take_length] at hwi; exact hwi
  simp only [List.take_length] at hwi ⊢
  simp -implicitDefEqProofs (disch := omega) [go_sem, Try.f39]
  exact ⟨_, ⟨_, rfl, frz_parts (l := p2 ++ b.locks.flatMap lockW) rfl (by simp)⟩, rfl⟩
end
end Bk
end Go.Proofs.Ytdgklbbgbnapoaa
namespace Go.Proofs.Ytdgklbbgbnapoaa
open Go.RowKit
set_option linter.unusedVariables false
set_option linter.unusedSimpArgs false
namespace Bk
structure SessOk (b : Book) (i : Nat) (s : Sess) : Prop where
  id0 : 0 ≤ s.id
  id1 : s.id < b.next
  up : 0 < i → (b.opn.getD (i - 1) default).id < s.id
  l0 : 0 ≤ s.link
  l1 : s.link ≤ 7
  user : nameOk s.user
  addr : poolOk s.addr
def SessAt (b : Book) (i : Nat) (h : i < b.opn.length) : Prop := SessOk b i b.opn[i] ∧ ∀ (k : Nat) (hk : k < i), b.opn[k].link ≠ b.opn[i].link ∧ b.opn[k].addr ≠ b.opn[i].addr
def OpenOk (b : Book) : Prop := ∀ (i : Nat) (h : i < b.opn.length), SessAt b i h
set_option maxHeartbeats 8000000 in
set_option maxRecDepth 100000 in
theorem open_pc (Γ : Nat → Option (List Data)) (b : Book) (hb : Fits b) {q : Bool} (hq : q = true ↔ OpenOk b) : PC Try.prog Γ 46 [book b] (.bool q) := by
  refine pc_by mixed Try.func46 rfl (fun args w => Try.call46 args w) ?_
  have ho := hb.o
  have no : ¬ OpenOk b → q = false := fun h => by
    cases q
    · rfl
    · exact absurd (hq.1 rfl) h
  simp -implicitDefEqProofs (disch := omega) [go_sem, book]
  refine loop_ren (σ := { i : Nat // i ≤ b.opn.length ∧ ∀ (j : Nat) (h : j < b.opn.length), j < i → SessAt b j h }) (fun i => ⟨envL [(1, .ptr 0 0), (3, .data (.int .i64 i.1))], hpL [(0, .blk true [.data (.int .i64 b.next), .data (.sl 6 (sesss b.opn)), .data (.sl 5 (items b.items)), .data (.sl 3 (locks b.locks))])], 1, 0, 95⟩) (fun i => b.opn.length - i.1) ⟨0, by omega, by omega⟩ [] (rhoL []) ?_ ?_
  · apply ren_lists <;> simp -implicitDefEqProofs [go_sem]
  · rintro ⟨i, hi, hall⟩
    by_cases h : i < b.opn.length
    rotate_left
    · have hyes : q = true := hq.2 fun i hi2 => hall i hi2 (by omega)
      simp -implicitDefEqProofs (disch := omega) [go_sem, hyes, Try.results46]
    have hn := name_pc Γ b.opn[i].user (by have := hb.ou _ (List.getElem_mem h); omega)
    have hp := pool_pc Γ b.opn[i].addr
    have hno : ¬ SessOk b i b.opn[i] → q = false := fun hk => no fun ha => hk (ha i h).1
    have hgd : 0 < i → b.opn.getD (i - 1) default = b.opn[i - 1] := fun h0 => by rw [List.getD_eq_getElem?_getD, List.getElem?_eq_getElem (by omega)]; rfl
    have ei : ((i : Int) - 1).toNat = i - 1 := by omega
    simp -implicitDefEqProofs (disch := omega) [go_sem]
    refine .inl (call_data hn (by simp [go_sem]) ?_)
    simp -implicitDefEqProofs (disch := omega) [go_sem]
    refine .inl (call_data hp (by simp [go_sem]) ?_)
    simp -implicitDefEqProofs (disch := omega) [go_sem]
    refine ifW_ndec (fun g1 => ?_) (fun g1 => ?_)
    rotate_left
    · have hqf : q = false := hno fun hk => absurd hk.id0 (by omega)
      simp -implicitDefEqProofs (disch := omega) [go_sem, hqf]
      refine side (by kernel_rfl) ?_
      simp -implicitDefEqProofs (disch := omega) [go_sem, hqf, Try.results46]
    simp -implicitDefEqProofs (disch := omega) [go_sem]
    refine ifW_ndec (fun g2 => ?_) (fun g2 => ?_)
    rotate_left
    · have hqf : q = false := hno fun hk => absurd hk.id1 (by omega)
      simp -implicitDefEqProofs (disch := omega) [go_sem, hqf]
      refine side (by kernel_rfl) ?_
      simp -implicitDefEqProofs (disch := omega) [go_sem, hqf, Try.results46]
    simp -implicitDefEqProofs (disch := omega) [go_sem]
    refine ifW_dec (fun g0 => ?_) (fun g0 => ?_)
    · have g0' : 0 < i := by omega
      have him : i - 1 < b.opn.length := by omega
      simp -implicitDefEqProofs (disch := omega) [go_sem, ei]
      refine ifW_ndec (fun g3 => ?_) (fun g3 => ?_)
      rotate_left
      · have hqf : q = false := hno fun hk => by have := hk.up g0'; rw [hgd g0'] at this; omega
        simp -implicitDefEqProofs (disch := omega) [go_sem, hqf]
        refine side (by kernel_rfl) ?_
        simp -implicitDefEqProofs (disch := omega) [go_sem, hqf, Try.results46]
      simp -implicitDefEqProofs (disch := omega) [go_sem]
      refine ifW_ndec (fun g4 => ?_) (fun g4 => ?_)
      rotate_left
      · have hqf : q = false := hno fun hk => absurd hk.l0 (by omega)
        simp -implicitDefEqProofs (disch := omega) [go_sem, hqf]
        refine side (by kernel_rfl) ?_
        simp -implicitDefEqProofs (disch := omega) [go_sem, hqf, Try.results46]
      simp -implicitDefEqProofs (disch := omega) [go_sem]
      refine ifW_ndec (fun g5 => ?_) (fun g5 => ?_)
      rotate_left
      · have hqf : q = false := hno fun hk => absurd hk.l1 (by omega)
        simp -implicitDefEqProofs (disch := omega) [go_sem, hqf]
        refine side (by kernel_rfl) ?_
        simp -implicitDefEqProofs (disch := omega) [go_sem, hqf, Try.results46]
      by_cases g6 : nameOk b.opn[i].user
      rotate_left
      · have hqf : q = false := hno fun hk => g6 hk.user
        simp -implicitDefEqProofs (disch := omega) [go_sem, hqf, g6]
        refine side (by kernel_rfl) ?_
        simp -implicitDefEqProofs (disch := omega) [go_sem, hqf, g6, Try.results46]
      by_cases g7 : poolOk b.opn[i].addr
      rotate_left
      · have hqf : q = false := hno fun hk => g7 hk.addr
        simp -implicitDefEqProofs (disch := omega) [go_sem, hqf, g6, g7]
        refine side (by kernel_rfl) ?_
        simp -implicitDefEqProofs (disch := omega) [go_sem, hqf, g6, g7, Try.results46]
      have hsok : SessOk b i b.opn[i] := ⟨by omega, by omega, fun h0 => by rw [hgd h0]; omega, by omega, by omega, g6, g7⟩
      simp -implicitDefEqProofs (disch := omega) [go_sem, g6, g7]
      refine side (by kernel_rfl) ?_
      simp -implicitDefEqProofs (disch := omega) [go_sem]
      refine loop_ren (σ := { k : Nat // k ≤ i ∧ ∀ (j : Nat) (hj : j < k) (hk : k ≤ i), b.opn[j].link ≠ b.opn[i].link ∧ b.opn[j].addr ≠ b.opn[i].addr }) (fun k => ⟨envL [(1, .ptr 0 0), (3, .data (.int .i64 i)), (4, .ptr 1 0), (7, .data (.int .i64 k.1))], hpL [(0, .blk true [.data (.int .i64 b.next), .data (.sl 6 (sesss b.opn)), .data (.sl 5 (items b.items)), .data (.sl 3 (locks b.locks))]), (1, .blk true [.data (.int .i64 b.opn[i].id), .data (.int .i64 b.opn[i].link), .data (.int .u32 b.opn[i].addr), .data (.str b.opn[i].user), .data (.int .u64 b.opn[i].inn), .data (.int .u64 b.opn[i].out)])], 2, 0, 95⟩) (fun k => i - k.1) ⟨0, by omega, by omega⟩ [] (rhoL [(1, some 11)]) ?_ ?_
      · apply ren_lists <;> simp -implicitDefEqProofs [go_sem]
      rintro ⟨k, hk, hin⟩
      by_cases hki : k < i
      rotate_left
      · have hki2 : k = i := by omega
        subst hki2
        simp -implicitDefEqProofs (disch := omega) [go_sem]
        refine next_ren ⟨k + 1, by omega, fun j hj hji => ?_⟩ (by simp only; omega) [] (rhoL []) ?_
        · by_cases e : j = k
          · subst e; exact ⟨hsok, fun m hm => hin m hm (Nat.le_refl _)⟩
          · exact hall j hj (by omega)
        apply ren_lists <;> simp -implicitDefEqProofs [go_sem]
      have hkl : k < b.opn.length := by omega
      simp -implicitDefEqProofs (disch := omega) [go_sem]
      refine ifW_ndec (fun g8 => ?_) (fun g8 => ?_)
      rotate_left
      · have hqf : q = false := no fun ha => ((ha i h).2 k hki).1 g8
        simp -implicitDefEqProofs (disch := omega) [go_sem, hqf, g8]
        refine side (by kernel_rfl) ?_
        simp -implicitDefEqProofs (disch := omega) [go_sem, hqf, g8, Try.results46]
      simp -implicitDefEqProofs (disch := omega) [go_sem, g8]
      refine side (by kernel_rfl) ?_
      simp -implicitDefEqProofs (disch := omega) [go_sem, g8]
      refine ifW_dec (fun g9 => ?_) (fun g9 => ?_)
      · have hqf : q = false := no fun ha => ((ha i h).2 k hki).2 g9
        simp -implicitDefEqProofs (disch := omega) [go_sem, hqf, Try.results46]
      simp -implicitDefEqProofs (disch := omega) [go_sem]
      refine next_ren ⟨k + 1, by omega, fun j hj hk2 => ?_⟩ (by simp only; omega) [] (rhoL []) ?_
      · by_cases e : j = k
        · subst e; exact ⟨g8, g9⟩
        · exact hin j (by omega) (by omega)
      apply ren_lists <;> simp -implicitDefEqProofs [go_sem]
    · simp -implicitDefEqProofs (disch := omega) [go_sem]
      refine ifW_ndec (fun g4 => ?_) (fun g4 => ?_)
      rotate_left
      · have hqf : q = false := hno fun hk => absurd hk.l0 (by omega)
        simp -implicitDefEqProofs (disch := omega) [go_sem, hqf]
        refine side (by kernel_rfl) ?_
        simp -implicitDefEqProofs (disch := omega) [go_sem, hqf, Try.results46]
      simp -implicitDefEqProofs (disch := omega) [go_sem]
      refine ifW_ndec (fun g5 => ?_) (fun g5 => ?_)
      rotate_left
      · have hqf : q = false := hno fun hk => absurd hk.l1 (by omega)
        simp -implicitDefEqProofs (disch := omega) [go_sem, hqf]
        refine side (by kernel_rfl) ?_
        simp -implicitDefEqProofs (disch := omega) [go_sem, hqf, Try.results46]
      by_cases g6 : nameOk b.opn[i].user
      rotate_left
      · have hqf : q = false := hno fun hk => g6 hk.user
        simp -implicitDefEqProofs (disch := omega) [go_sem, hqf, g6]
        refine side (by kernel_rfl) ?_
        simp -implicitDefEqProofs (disch := omega) [go_sem, hqf, g6, Try.results46]
      by_cases g7 : poolOk b.opn[i].addr
      rotate_left
      · have hqf : q = false := hno fun hk => g7 hk.addr
        simp -implicitDefEqProofs (disch := omega) [go_sem, hqf, g6, g7]
        refine side (by kernel_rfl) ?_
        simp -implicitDefEqProofs (disch := omega) [go_sem, hqf, g6, g7, Try.results46]
      have hsok : SessOk b i b.opn[i] := ⟨by omega, by omega, fun h0 => absurd h0 (by omega), by omega, by omega, g6, g7⟩
      simp -implicitDefEqProofs (disch := omega) [go_sem, g6, g7]
      refine side (by kernel_rfl) ?_
      simp -implicitDefEqProofs (disch := omega) [go_sem]
      refine loop_ren (σ := { k : Nat // k ≤ i ∧ ∀ (j : Nat) (hj : j < k) (hk : k ≤ i), b.opn[j].link ≠ b.opn[i].link ∧ b.opn[j].addr ≠ b.opn[i].addr }) (fun k => ⟨envL [(1, .ptr 0 0), (3, .data (.int .i64 i)), (4, .ptr 1 0), (7, .data (.int .i64 k.1))], hpL [(0, .blk true [.data (.int .i64 b.next), .data (.sl 6 (sesss b.opn)), .data (.sl 5 (items b.items)), .data (.sl 3 (locks b.locks))]), (1, .blk true [.data (.int .i64 b.opn[i].id), .data (.int .i64 b.opn[i].link), .data (.int .u32 b.opn[i].addr), .data (.str b.opn[i].user), .data (.int .u64 b.opn[i].inn), .data (.int .u64 b.opn[i].out)])], 2, 0, 95⟩) (fun k => i - k.1) ⟨0, by omega, by omega⟩ [] (rhoL [(1, some 11)]) ?_ ?_
      · apply ren_lists <;> simp -implicitDefEqProofs [go_sem]
      rintro ⟨k, hk, hin⟩
      by_cases hki : k < i
      rotate_left
      · have hki2 : k = i := by omega
        subst hki2
        simp -implicitDefEqProofs (disch := omega) [go_sem]
        refine next_ren ⟨k + 1, by omega, fun j hj hji => ?_⟩ (by simp only; omega) [] (rhoL []) ?_
        · by_cases e : j = k
          · subst e; exact ⟨hsok, fun m hm => hin m hm (Nat.le_refl _)⟩
          · exact hall j hj (by omega)
        apply ren_lists <;> simp -implicitDefEqProofs [go_sem]
      exact absurd hki (by omega)
end Bk
end Go.Proofs.Ytdgklbbgbnapoaa
namespace Go.Proofs.Ytdgklbbgbnapoaa
open Go.RowKit
set_option linter.unusedVariables false
set_option linter.unusedSimpArgs false
namespace Bk
structure ItemAt (b : Book) (i : Nat) (h : i < b.items.length) : Prop where
  line : LineOk b i b.items[i]
  ends : last b.items b.items[i].id b.items.length = i → ¬ (0 ≤ ofId b b.items[i].id ↔ b.items[i].kind = 3)
structure SessEnd (b : Book) (s : Sess) : Prop where
  k0 : 0 ≤ last b.items s.id b.items.length
  inn : (b.items.getD (last b.items s.id b.items.length).toNat default).inn = s.inn
  out : (b.items.getD (last b.items s.id b.items.length).toNat default).out = s.out
structure LockAt (b : Book) (i : Nat) (h : i < b.locks.length) : Prop where
  user : nameOk b.locks[i].user
  n0 : 1 ≤ b.locks[i].n
  n1 : b.locks[i].n ≤ 255
  t0 : 0 ≤ b.locks[i].at_
  t1 : b.locks[i].at_ ≤ 1000000000
  f : failed b b.locks[i].user = i
structure RightP (b : Book) : Prop where
  n0 : 0 ≤ b.next
  n1 : b.next ≤ 1000000000
  len : b.items.length + b.opn.length ≤ 60
  ll : b.locks.length ≤ 8
  opens : OpenOk b
  items : ∀ (i : Nat) (h : i < b.items.length), ItemAt b i h
  ends : ∀ (i : Nat) (h : i < b.opn.length), SessEnd b b.opn[i]
  locks : ∀ (i : Nat) (h : i < b.locks.length), LockAt b i h
set_option maxHeartbeats 8000000 in
set_option maxRecDepth 100000 in
theorem right_pc (Γ : Nat → Option (List Data)) (b : Book) (hb : Fits b) {q : Bool} (hq : q = true ↔ RightP b) : PC Try.prog Γ 26 [book b] (.bool q) := by
  refine pc_by mixed Try.func26 rfl (fun args w => Try.call26 args w) ?_
  have no : ¬ RightP b → q = false := fun h => by
    cases q
    · rfl
    · exact absurd (hq.1 rfl) h
  have yes : RightP b → q = true := hq.2
  clear hq
  have hb2 := hb
  obtain ⟨f1, f2, f3, f4, f5⟩ := hb2
  obtain ⟨vo, hvo⟩ : ∃ v : Bool, v = true ↔ OpenOk b := by classical exact ⟨decide (OpenOk b), by simp⟩
  have co := open_pc Γ b hb hvo
  by_cases n0 : 0 ≤ b.next
  rotate_left
  · have hqf : q = false := no fun r => n0 r.n0
    simp -implicitDefEqProofs (disch := omega) [go_sem, book, hqf, Try.results26]
  by_cases n1 : b.next ≤ 1000000000
  rotate_left
  · have hqf : q = false := no fun r => n1 r.n1
    simp -implicitDefEqProofs (disch := omega) [go_sem, book, hqf, Try.results26]
  by_cases len : b.items.length + b.opn.length ≤ 60
  rotate_left
  · have hqf : q = false := no fun r => len r.len
    simp -implicitDefEqProofs (disch := omega) [go_sem, book, hqf, Try.results26]
  by_cases ll : b.locks.length ≤ 8
  rotate_left
  · have hqf : q = false := no fun r => ll r.ll
    simp -implicitDefEqProofs (disch := omega) [go_sem, book, hqf, Try.results26]
  simp -implicitDefEqProofs (disch := omega) [go_sem, book]
  refine .inl (call_data co (by simp [go_sem, book]) ?_)
  cases vo with
  | false =>
    have hqf : q = false := no fun r => by have := hvo.2 r.opens; cases this
    simp -implicitDefEqProofs (disch := omega) [go_sem, hqf, Try.results26]
  | true =>
  have opens := hvo.1 rfl
  clear hvo co
  simp -implicitDefEqProofs (disch := omega) [go_sem]
  refine loop_ren (σ := { i : Nat // i ≤ b.items.length ∧ ∀ (j : Nat) (h : j < b.items.length), j < i → ItemAt b j h }) (fun i => ⟨envL [(1, .ptr 0 0), (4, .data (.int .i64 i.1))], hpL [(0, .blk true [.data (.int .i64 b.next), .data (.sl 6 (sesss b.opn)), .data (.sl 5 (items b.items)), .data (.sl 3 (locks b.locks))])], 1, 0, 182⟩) (fun i => b.items.length - i.1) ⟨0, by omega, fun j h hj => absurd hj (by omega)⟩ [] (rhoL []) ?_ ?_
  · apply ren_lists <;> simp -implicitDefEqProofs [go_sem]
  rintro ⟨i, hi, hall⟩
  by_cases h : i < b.items.length
  · obtain ⟨vl, hvl⟩ : ∃ v : Bool, v = true ↔ LineOk b i b.items[i] := by classical exact ⟨decide (LineOk b i b.items[i]), by simp⟩
    have cl := line_pc Γ b hb i h hvl
    have ca := last_pc Γ b hb b.items[i].id b.items.length (Nat.le_refl _)
    have cf := of_pc Γ b hb b.items[i].id
    simp -implicitDefEqProofs (disch := omega) [go_sem]
    refine .inl (call_data cl (by simp [go_sem, book]) ?_)
    cases vl with
    | false =>
      have hqf : q = false := no fun r => by have := hvl.2 (r.items i h).line; cases this
      simp -implicitDefEqProofs (disch := omega) [go_sem, hqf, Try.results26]
    | true =>
    have hline := hvl.1 rfl
    clear hvl cl
    simp -implicitDefEqProofs (disch := omega) [go_sem]
    refine .inl (call_data ca (by simp [go_sem, book]) ?_)
    by_cases ge : last b.items b.items[i].id b.items.length = i
    · simp -implicitDefEqProofs (disch := omega) [go_sem]
      refine side (by kernel_rfl) ?_
      simp -implicitDefEqProofs (disch := omega) [go_sem]
      refine .inl (call_data cf (by simp [go_sem, book]) ?_)
      by_cases gi : 0 ≤ ofId b b.items[i].id
      · by_cases gk : b.items[i].kind = 3
        · simp -implicitDefEqProofs (disch := omega) [go_sem]
          refine side (by kernel_rfl) ?_
          have hqf : q = false := no fun r => (r.items i h).ends ge (by simp [gi, gk])
          simp -implicitDefEqProofs (disch := omega) [go_sem, hqf, Try.results26]
        · simp -implicitDefEqProofs (disch := omega) [go_sem]
          refine side (by kernel_rfl) ?_
          simp -implicitDefEqProofs (disch := omega) [go_sem]
          refine next_ren ⟨i + 1, by omega, fun j hj hji => ?_⟩ (by simp only; omega) [] (rhoL []) ?_
          · by_cases e : j = i
            · subst e; exact ⟨hline, fun _ => by simp [gi, gk]⟩
            · exact hall j hj (by omega)
          apply ren_lists <;> simp -implicitDefEqProofs [go_sem]
      · by_cases gk : b.items[i].kind = 3
        · simp -implicitDefEqProofs (disch := omega) [go_sem]
          refine side (by kernel_rfl) ?_
          simp -implicitDefEqProofs (disch := omega) [go_sem]
          refine next_ren ⟨i + 1, by omega, fun j hj hji => ?_⟩ (by simp only; omega) [] (rhoL []) ?_
          · by_cases e : j = i
            · subst e; exact ⟨hline, fun _ => by simp [gi, gk]⟩
            · exact hall j hj (by omega)
          apply ren_lists <;> simp -implicitDefEqProofs [go_sem]
        · simp -implicitDefEqProofs (disch := omega) [go_sem]
          refine side (by kernel_rfl) ?_
          have hqf : q = false := no fun r => (r.items i h).ends ge (by simp [gi, gk])
          simp -implicitDefEqProofs (disch := omega) [go_sem, hqf, Try.results26]
    · simp -implicitDefEqProofs (disch := omega) [go_sem]
      refine side (by kernel_rfl) ?_
      simp -implicitDefEqProofs (disch := omega) [go_sem]
      refine .inl (call_data cf (by simp [go_sem, book]) ?_)
      by_cases gi : 0 ≤ ofId b b.items[i].id
      · simp -implicitDefEqProofs (disch := omega) [go_sem]
        refine side (by kernel_rfl) ?_
        simp -implicitDefEqProofs (disch := omega) [go_sem]
        refine next_ren ⟨i + 1, by omega, fun j hj hji => ?_⟩ (by simp only; omega) [] (rhoL []) ?_
        · by_cases e : j = i
          · subst e; exact ⟨hline, fun e => absurd e ge⟩
          · exact hall j hj (by omega)
        apply ren_lists <;> simp -implicitDefEqProofs [go_sem]
      · simp -implicitDefEqProofs (disch := omega) [go_sem]
        refine side (by kernel_rfl) ?_
        simp -implicitDefEqProofs (disch := omega) [go_sem]
        refine next_ren ⟨i + 1, by omega, fun j hj hji => ?_⟩ (by simp only; omega) [] (rhoL []) ?_
        · by_cases e : j = i
          · subst e; exact ⟨hline, fun e => absurd e ge⟩
          · exact hall j hj (by omega)
        apply ren_lists <;> simp -implicitDefEqProofs [go_sem]
  obtain rfl : i = b.items.length := by omega
  have hitems : ∀ (i : Nat) (h : i < b.items.length), ItemAt b i h := fun i h => hall i h h
  simp -implicitDefEqProofs (disch := omega) [go_sem]
  try clear hall h hi
  refine loop_ren (σ := { i : Nat // i ≤ b.opn.length ∧ ∀ (j : Nat) (h : j < b.opn.length), j < i → SessEnd b b.opn[j] }) (fun i => ⟨envL [(1, .ptr 0 0), (8, .data (.int .i64 i.1))], hpL [(0, .blk true [.data (.int .i64 b.next), .data (.sl 6 (sesss b.opn)), .data (.sl 5 (items b.items)), .data (.sl 3 (locks b.locks))])], 1, 0, 182⟩) (fun i => b.opn.length - i.1) ⟨0, by omega, fun j h hj => absurd hj (by omega)⟩ [] (rhoL []) ?_ ?_
  · apply ren_lists <;> simp -implicitDefEqProofs [go_sem]
  rintro ⟨i, hi, hall⟩
  by_cases h : i < b.opn.length
  · have ca := last_pc Γ b hb b.opn[i].id b.items.length (Nat.le_refl _)
    have hlt := last_lt b.items b.opn[i].id b.items.length
    obtain ⟨K, hK⟩ : ∃ K, last b.items b.opn[i].id b.items.length = K := ⟨_, rfl⟩
    rw [hK] at ca hlt
    obtain ⟨l1, l2⟩ := hlt
    simp -implicitDefEqProofs (disch := omega) [go_sem]
    refine .inl (call_data ca (by simp [go_sem, book]) ?_)
    simp -implicitDefEqProofs (disch := omega) [go_sem]
    refine side (by kernel_rfl) ?_
    by_cases g0 : 0 ≤ K
    rotate_left
    · have hqf : q = false := no fun r => g0 (hK ▸ (r.ends i h).k0)
      simp -implicitDefEqProofs (disch := omega) [go_sem, hqf]
      refine side (by kernel_rfl) ?_
      simp -implicitDefEqProofs (disch := omega) [go_sem, hqf, Try.results26]
    have hk : K.toNat < b.items.length := by omega
    have hgd : b.items.getD K.toNat default = b.items[K.toNat] := by rw [List.getD_eq_getElem?_getD, List.getElem?_eq_getElem hk]; rfl
    by_cases g1 : b.items[K.toNat].inn = b.opn[i].inn
    rotate_left
    · have hqf : q = false := no fun r => g1 (by have := (r.ends i h).inn; rw [hK, hgd] at this; exact this)
      simp -implicitDefEqProofs (disch := omega) [go_sem, hqf, g1]
      refine side (by kernel_rfl) ?_
      simp -implicitDefEqProofs (disch := omega) [go_sem, hqf, Try.results26]
    by_cases g2 : b.items[K.toNat].out = b.opn[i].out
    rotate_left
    · have hqf : q = false := no fun r => g2 (by have := (r.ends i h).out; rw [hK, hgd] at this; exact this)
      simp -implicitDefEqProofs (disch := omega) [go_sem, hqf, g1, g2]
      refine side (by kernel_rfl) ?_
      simp -implicitDefEqProofs (disch := omega) [go_sem, hqf, Try.results26]
    simp -implicitDefEqProofs (disch := omega) [go_sem, g1, g2]
    refine side (by kernel_rfl) ?_
    simp -implicitDefEqProofs (disch := omega) [go_sem]
    refine next_ren ⟨i + 1, by omega, fun j hj hji => ?_⟩ (by simp only; omega) [] (rhoL []) ?_
    · by_cases e : j = i
      · subst e; exact ⟨hK ▸ g0, by rw [hK, hgd]; exact g1, by rw [hK, hgd]; exact g2⟩
      · exact hall j hj (by omega)
    apply ren_lists <;> simp -implicitDefEqProofs [go_sem]
  obtain rfl : i = b.opn.length := by omega
  have hends : ∀ (i : Nat) (h : i < b.opn.length), SessEnd b b.opn[i] := fun i h => hall i h h
  simp -implicitDefEqProofs (disch := omega) [go_sem]
  try clear hall h hi
  refine loop_ren (σ := { i : Nat // i ≤ b.locks.length ∧ ∀ (j : Nat) (h : j < b.locks.length), j < i → LockAt b j h }) (fun i => ⟨envL [(1, .ptr 0 0), (10, .data (.int .i64 i.1))], hpL [(0, .blk true [.data (.int .i64 b.next), .data (.sl 6 (sesss b.opn)), .data (.sl 5 (items b.items)), .data (.sl 3 (locks b.locks))])], 1, 0, 182⟩) (fun i => b.locks.length - i.1) ⟨0, by omega, fun j h hj => absurd hj (by omega)⟩ [] (rhoL []) ?_ ?_
  · apply ren_lists <;> simp -implicitDefEqProofs [go_sem]
  rintro ⟨i, hi, hall⟩
  by_cases h : i < b.locks.length
  · have cn := name_pc Γ b.locks[i].user (by have := f5 _ (List.getElem_mem h); omega)
    have cf := failed_pc Γ b hb b.locks[i].user
    simp -implicitDefEqProofs (disch := omega) [go_sem]
    refine .inl (call_data cn (by simp [go_sem]) ?_)
    by_cases k_user : nameOk b.locks[i].user
    rotate_left
    · have hqf : q = false := no fun r => k_user (r.locks i h).user
      simp -implicitDefEqProofs (disch := omega) [go_sem, hqf, k_user, Try.results26]
    by_cases k_n0 : 1 ≤ b.locks[i].n
    rotate_left
    · have hqf : q = false := no fun r => k_n0 (r.locks i h).n0
      simp -implicitDefEqProofs (disch := omega) [go_sem, hqf, k_user, Try.results26]
    by_cases k_n1 : b.locks[i].n ≤ 255
    rotate_left
    · have hqf : q = false := no fun r => k_n1 (r.locks i h).n1
      simp -implicitDefEqProofs (disch := omega) [go_sem, hqf, k_user, Try.results26]
    by_cases k_t0 : 0 ≤ b.locks[i].at_
    rotate_left
    · have hqf : q = false := no fun r => k_t0 (r.locks i h).t0
      simp -implicitDefEqProofs (disch := omega) [go_sem, hqf, k_user, Try.results26]
    by_cases k_t1 : b.locks[i].at_ ≤ 1000000000
    rotate_left
    · have hqf : q = false := no fun r => k_t1 (r.locks i h).t1
      simp -implicitDefEqProofs (disch := omega) [go_sem, hqf, k_user, Try.results26]
    simp -implicitDefEqProofs (disch := omega) [go_sem, k_user]
    refine .inl (call_data cf (by simp [go_sem, book]) ?_)
    by_cases k_f : failed b b.locks[i].user = i
    rotate_left
    · have hqf : q = false := no fun r => k_f (r.locks i h).f
      simp -implicitDefEqProofs (disch := omega) [go_sem, hqf, Try.results26]
    simp -implicitDefEqProofs (disch := omega) [go_sem]
    refine next_ren ⟨i + 1, by omega, fun j hj hji => ?_⟩ (by simp only; omega) [] (rhoL []) ?_
    · by_cases e : j = i
      · subst e; exact ⟨k_user, k_n0, k_n1, k_t0, k_t1, k_f⟩
      · exact hall j hj (by omega)
    apply ren_lists <;> simp -implicitDefEqProofs [go_sem]
  obtain rfl : i = b.locks.length := by omega
  have hqt : q = true := yes ⟨n0, n1, len, ll, opens, hitems, hends, fun i h => hall i h h⟩
  simp -implicitDefEqProofs (disch := omega) [go_sem, hqt, Try.results26]
end Bk
end Go.Proofs.Ytdgklbbgbnapoaa
namespace Go.Proofs.Ytdgklbbgbnapoaa
open Go.RowKit
set_option linter.unusedVariables false
set_option linter.unusedSimpArgs false
set_option maxRecDepth 100000
namespace Bk
theorem pigeon : ∀ (n : Nat) (l : List Int), (∀ x ∈ l, 0 ≤ x ∧ x < n) → l.Nodup → l.length ≤ n
  | 0, l, h, _ => by
    cases l with
    | nil => simp
    | cons x l => have := h x List.mem_cons_self; omega
  | n + 1, l, h, hd => by
    have ih := pigeon n (l.erase (n : Int)) (fun x hx => by
      have h1 := (List.Nodup.mem_erase_iff hd).1 hx
      have h2 := h x h1.2
      have h3 := h1.1
      omega) (hd.erase _)
    rw [List.length_erase] at ih
    split at ih <;> omega
theorem RightP.opn8 {b : Book} (h : RightP b) : b.opn.length ≤ 8 := by
  have h1 := pigeon 8 (b.opn.map fun s => s.link) (fun x hx => by
    obtain ⟨s, hs, rfl⟩ := List.mem_map.1 hx
    obtain ⟨i, hi, rfl⟩ := List.getElem_of_mem hs
    have h2 := (h.opens i hi).1
    exact ⟨h2.l0, by have := h2.l1; omega⟩) (by
    rw [List.nodup_iff_pairwise_ne, List.pairwise_iff_getElem]
    intro i j hi hj hij
    rw [List.length_map] at hi hj
    rw [List.getElem_map, List.getElem_map]
    exact ((h.opens j hj).2 i hij).1)
  rwa [List.length_map] at h1
theorem RightP.bfit {b : Book} (h : RightP b) (ht : b.Ty) : BookFit b := by
  have h8 := h.opn8
  have hn := h.n1
  refine ⟨⟨h.n0, by omega⟩, by omega, by have := h.len; omega, by have := h.ll; omega, fun s hs => ?_, fun x hx => ?_, fun l hl => ?_⟩
  · have t := ht.o s hs
    obtain ⟨i, hi, rfl⟩ := List.getElem_of_mem hs
    obtain ⟨f1, f2, f3, f4, f5, f6, f7⟩ := (h.opens i hi).1
    obtain ⟨t1, t2, t3, t4, t5, t6⟩ := t
    unfold U64 at t5 t6
    unfold poolOk at f7
    exact ⟨⟨f1, by omega⟩, ⟨f4, by omega⟩, ⟨by omega, by omega⟩, f6.2, ⟨by omega, by omega⟩, ⟨by omega, by omega⟩⟩
  · have t := ht.i x hx
    obtain ⟨i, hi, rfl⟩ := List.getElem_of_mem hx
    have l1 := (h.items i hi).line
    obtain ⟨t1, t2, t3, t4, t5⟩ := t
    unfold U64 at t3 t4
    unfold LineOk LineAt at l1
    generalize last b.items b.items[i].id i = k at l1
    generalize b.items.getD k.toNat default = y at l1
    generalize b.items[i] = x at *
    obtain ⟨l1, l2, l3⟩ := l1
    refine ⟨⟨by omega, by omega⟩, ⟨by omega, by omega⟩, ⟨by omega, by omega⟩, ⟨by omega, by omega⟩, ⟨by omega, by omega⟩⟩
  · obtain ⟨i, hi, rfl⟩ := List.getElem_of_mem hl
    have k := h.locks i hi
    obtain ⟨k1, k2, k3, k4, k5, k6⟩ := k
    exact ⟨k1.2, ⟨by omega, by omega⟩, ⟨by omega, by omega⟩⟩
section
variable (Γ : Nat → Option (List Data))
def bookB (b : Book) : List Nat := be 4 b.next.toNat ++ (be 1 b.opn.length ++ (be 1 b.items.length ++ (be 1 b.locks.length ++ (b.opn.flatMap sessB ++ (b.items.flatMap itemB ++ b.locks.flatMap lockB)))))
theorem flatMap_part {α : Type} {w : α → List Part} {e : α → List Nat} (h : ∀ x, (w x).flatMap partB = e x) : ∀ l : List α, (l.flatMap w).flatMap partB = l.flatMap e
  | [] => rfl
  | x :: l => by rw [List.flatMap_cons, List.flatMap_append, h x, flatMap_part h l, List.flatMap_cons]
theorem sessW_bytes (s : Sess) : (sessW s).flatMap partB = sessB s := by simp [sessW, sessB, partB]
theorem itemW_bytes (s : Item) : (itemW s).flatMap partB = itemB s := by simp [itemW, itemB, partB]
theorem lockW_bytes (s : Lock) : (lockW s).flatMap partB = lockB s := by simp [lockW, lockB, partB]
theorem bookW_bytes (b : Book) : (bookW b).flatMap partB = bookB b := by
  unfold bookW bookB
  rw [List.flatMap_append, List.flatMap_append, List.flatMap_append, flatMap_part sessW_bytes, flatMap_part itemW_bytes, flatMap_part lockW_bytes]
  simp [frontW, partB, List.append_assoc]
theorem flatMap_length {α : Type} {e : α → List Nat} {n : Nat} : ∀ {l : List α}, (∀ x ∈ l, (e x).length = n) → (l.flatMap e).length = n * l.length
  | [], _ => by simp
  | x :: l, h => by
    rw [List.flatMap_cons, List.length_append, h x List.mem_cons_self, flatMap_length fun y hy => h y (List.mem_cons_of_mem _ hy), List.length_cons, Nat.mul_add]
    omega
theorem sessB_length {s : Sess} (h : SessFit s) : (sessB s).length = 42 := by simp [sessB, be_length, nameB_length h.user]
theorem itemB_length (s : Item) : (itemB s).length = 22 := by simp [itemB, be_length]
theorem lockB_length {s : Lock} (h : LockFit s) : (lockB s).length = 22 := by simp [lockB, be_length, nameB_length h.user]
theorem bookB_length {b : Book} (h : BookFit b) : (bookB b).length = 7 + 42 * b.opn.length + 22 * b.items.length + 22 * b.locks.length := by
  unfold bookB
  simp only [List.length_append, be_length]
  rw [flatMap_length fun s hs => sessB_length (h.opn s hs), flatMap_length fun s _ => itemB_length s, flatMap_length fun s hs => lockB_length (h.locks s hs)]
  omega
theorem bookW_ok {b : Book} (h : BookFit b) : ∀ p ∈ bookW b, PartOk p := by
  obtain ⟨q0, q1, q2, q3, q4, q5, q6⟩ := h
  intro p hp
  simp only [bookW, frontW, List.mem_append, List.mem_flatMap] at hp
  rcases hp with ((hp | ⟨s, hs, hp⟩) | ⟨s, hs, hp⟩) | ⟨s, hs, hp⟩
  · unfold Fit at q0
    simp only [List.mem_cons, List.not_mem_nil, or_false] at hp
    rcases hp with rfl | rfl | rfl | rfl <;> simp only [PartOk] <;> omega
  · obtain ⟨f1, f2, f3, f4, f5, f6⟩ := q4 s hs
    simp only [Fit] at *
    simp only [sessW, List.mem_cons, List.not_mem_nil, or_false] at hp
    rcases hp with rfl | rfl | rfl | rfl | rfl | rfl <;> simp only [PartOk] <;> omega
  · obtain ⟨f1, f2, f3, f4, f5⟩ := q5 s hs
    simp only [Fit] at *
    simp only [itemW, List.mem_cons, List.not_mem_nil, or_false] at hp
    rcases hp with rfl | rfl | rfl | rfl | rfl <;> simp only [PartOk] <;> omega
  · obtain ⟨f1, f2, f3⟩ := q6 s hs
    simp only [Fit] at *
    simp only [lockW, List.mem_cons, List.not_mem_nil, or_false] at hp
    rcases hp with rfl | rfl | rfl <;> simp only [PartOk] <;> omega
set_option maxHeartbeats 4000000 in
theorem bookBytes_pc (b : Book) (ht : b.Ty) {q : Bool} (hq : q = true ↔ RightP b) (cr : PC Try.prog Γ 38 [book b] (.bool q)) : PC Try.prog Γ 17 [book b] (if q = true then .tup [.sl 1 (bys (padB 2048 (bookB b))), .int .i64 0] else .tup [.sl 1 [], .int .i64 1]) := by
  refine pc_by mixed Try.func17 rfl (fun args w => Try.call17 args w) ?_
  unfold book at cr ⊢
  simp -implicitDefEqProofs (disch := omega) [go_sem]
  refine .inl (call_data cr (by simp [go_sem]) ?_)
  cases q with
  | true =>
    have hr := hq.1 rfl
    have hf := hr.bfit ht
    have h8 := hr.opn8
    have hl1 := hr.len
    have hl2 := hr.ll
    have hlen := bookB_length hf
    have cb := bookParts_pc Γ b hf
    unfold book at cb
    simp -implicitDefEqProofs (disch := omega) [go_sem]
    refine .inl (call_data cb (by simp [go_sem]) ?_)
    simp -implicitDefEqProofs (disch := omega) [go_sem]
    have hl := laid_pc Γ 2048 (bookW b) (bookW_ok hf) (by rw [bookW_bytes]; omega) (by omega) (by simp only [bookW, List.length_append, sessW_length, itemW_length, lockW_length, front_length]; omega)
    rw [bookW_bytes] at hl
    refine .inl (call_data hl (by simp [go_sem]) ?_)
    simp -implicitDefEqProofs (disch := omega) [go_sem, Try.f17]
  | false =>
    simp -implicitDefEqProofs (disch := omega) [go_sem, Try.f17]
    exact ⟨_, ⟨_, rfl, .emp ..⟩, rfl⟩
end
end Bk
end Go.Proofs.Ytdgklbbgbnapoaa
namespace Go.Proofs.Ytdgklbbgbnapoaa
open Go.RowKit
set_option linter.unusedVariables false
set_option linter.unusedSimpArgs false
set_option maxRecDepth 100000
namespace Bk
section
variable (Γ : Nat → Option (List Data))
theorem be_cons : ∀ k n : Nat, be (k + 1) n = (n / 256 ^ k % 256) :: be k n
  | 0, n => by simp [be]
  | k + 1, n => by
    rw [be, be_cons k (n / 256), be]
    rw [Nat.div_div_eq_div_mul, Nat.pow_succ, Nat.mul_comm 256]
    rfl
set_option maxHeartbeats 4000000 in
theorem rput_dc (q : List Nat) (n k : Nat) (hq : q.length ≤ 1000000) (hk : k ≤ 8) (hn : n < 18446744073709551616) : DC Try.prog Γ 31 [.ref 0 0 q.length 1, .data (.int .u64 n), .data (.int .i64 k)] (hpL [(0, .blk true ((bys q).map D.data))]) 1
    (fun d H' _ => ∃ g m c, d = .ref g 0 m 1 ∧ H' g = .blk true (c.map D.data) ∧ m = q.length + k ∧ c = bys (q ++ be k n)) := by
  refine dc_by mixed Try.func31 rfl (fun args w => Try.call31 args w) ?_
  simp -implicitDefEqProofs (disch := omega) [go_sem]
  refine loop_ren (σ := { i : Nat // i ≤ k }) (fun i => ⟨envL [(0, .ref 0 0 q.length 1), (1, .data (.int .u64 (n / 256 ^ i.1 : Nat))), (2, .data (.int .i64 k)), (7, .ref 1 0 i.1 1), (8, .data (.int .i64 i.1))], hpL [(0, .blk true ((bys q).map D.data)), (1, .blk true ((bys (be i.1 n)).map D.data))], 2, 1, 25⟩) (fun i => k - i.1) ⟨0, by omega⟩ [] (rhoL [(1, none)]) ?_ ?_
  · apply ren_lists <;> simp -implicitDefEqProofs [go_sem, be]
  rintro ⟨i, hi⟩
  have hbl := be_length i n
  by_cases h : i < k
  · have hc := be_cons i n
    have hd : n / 256 ^ (i + 1) = n / 256 ^ i / 256 := by rw [Nat.div_div_eq_div_mul, Nat.pow_succ]
    have hle : n / 256 ^ i ≤ n := Nat.div_le_self _ _
    generalize n / 256 ^ i = y at *
    generalize be i n = p at *
    simp -implicitDefEqProofs (disch := omega) [go_sem]
    refine next_ren ⟨i + 1, by omega⟩ (by simp only; omega) [] (rhoL [(1, some 10)]) ?_
    apply ren_lists <;> simp -implicitDefEqProofs [go_sem, hc, hd]
    · omega
    · rw [List.take_of_length_le (by omega)]
      exact renCells_plain rfl (by simp [plainD])
  have : i = k := by omega
  subst this
  simp -implicitDefEqProofs (disch := omega) [go_sem, Try.f31]
  rw [List.take_of_length_le (by omega)]
/-- Bytes at hand: a number is put behind them. -/
theorem put_given {q : List Nat} {n k : Nat} (hq : q.length ≤ 1000000) (hk : k ≤ 8) (hn : n < 18446744073709551616) {H : Nat → Blk} {nx g : Nat} {K : D → (Nat → Blk) → Nat → Prop} {m : Nat} (hm : m = q.length) (hg : H g = .blk true ((bys q).map D.data)) (hgn : g < nx)
    (h : K (.ref nx 0 (q.length + k) 1) (Hp.upd H [(g, .dead), (nx, .blk true ((bys (q ++ be k n)).map D.data))]) (nx + 1)) : DC Try.prog Γ 31 [.ref g 0 m 1, .data (.int .u64 n), .data (.int .i64 k)] H nx K := by
  subst hm
  exact dc_given (cells := bys q) (K0 := fun m c => m = q.length + k ∧ c = bys (q ++ be k n)) (rput_dc Γ q n k hq hk hn) hg hgn (by simp) (fun m c ⟨h3, h4⟩ => by subst h3; subst h4; exact h)
set_option maxHeartbeats 4000000 in
theorem rfilled_dc (q : List Nat) (n : Nat) (hq : q.length ≤ n) (hn : n ≤ 1000000) : DC Try.prog Γ 33 [.ref 0 0 q.length 1, .data (.int .i64 n)] (hpL [(0, .blk true ((bys q).map D.data))]) 1
    (fun d H' _ => ∃ g m c, d = .ref g 0 m 1 ∧ H' g = .blk true (c.map D.data) ∧ m = n ∧ c = bys (padB n q)) := by
  refine dc_by mixed Try.func33 rfl (fun args w => Try.call33 args w) ?_
  simp -implicitDefEqProofs (disch := omega) [go_sem, Try.f33]
  rfl
theorem str_bys (u : ByteArray) : (u.toList.map fun b => Data.int .u8 b.toNat) = bys (strB u) := by
  unfold bys strB
  rw [ByteArray.toList_eq, List.map_map]
  rfl
set_option maxHeartbeats 4000000 in
theorem rnamed_dc (q : List Nat) (u : ByteArray) (hq : q.length ≤ 1000000) (hu : u.size ≤ 16) : DC Try.prog Γ 32 [.ref 0 0 q.length 1, .data (.str u)] (hpL [(0, .blk true ((bys q).map D.data))]) 1
    (fun d H' _ => ∃ g m c, d = .ref g 0 m 1 ∧ H' g = .blk true (c.map D.data) ∧ m = q.length + 17 ∧ c = bys (q ++ nameB u)) := by
  refine dc_by mixed Try.func32 rfl (fun args w => Try.call32 args w) ?_
  have e1 : ((u.size : Int) % 256) = u.size := by omega
  have hl := strB_length u
  simp -implicitDefEqProofs (disch := omega) [go_sem, Try.f32, str_bys, hl, e1]
  refine ⟨18, ⟨rfl, by omega⟩, ?_⟩
  rw [if_pos rfl]
  show Blk.blk true ((bys q).map D.data ++ (bys (nameB u)).map D.data) = _
  simp [bys]
theorem filled_given {q : List Nat} {n : Nat} (hq : q.length ≤ n) (hn : n ≤ 1000000) {H : Nat → Blk} {nx g : Nat} {K : D → (Nat → Blk) → Nat → Prop} {m : Nat} (hm : m = q.length) (hg : H g = .blk true ((bys q).map D.data)) (hgn : g < nx)
    (h : K (.ref nx 0 n 1) (Hp.upd H [(g, .dead), (nx, .blk true ((bys (padB n q)).map D.data))]) (nx + 1)) : DC Try.prog Γ 33 [.ref g 0 m 1, .data (.int .i64 n)] H nx K := by
  subst hm
  exact dc_given (cells := bys q) (K0 := fun m c => m = n ∧ c = bys (padB n q)) (rfilled_dc Γ q n hq hn) hg hgn (by simp) (fun m c ⟨h3, h4⟩ => by subst h3; subst h4; exact h)
theorem named_given {q : List Nat} {u : ByteArray} (hq : q.length ≤ 1000000) (hu : u.size ≤ 16) {H : Nat → Blk} {nx g : Nat} {K : D → (Nat → Blk) → Nat → Prop} {m : Nat} (hm : m = q.length) (hg : H g = .blk true ((bys q).map D.data)) (hgn : g < nx)
    (h : K (.ref nx 0 (q.length + 17) 1) (Hp.upd H [(g, .dead), (nx, .blk true ((bys (q ++ nameB u)).map D.data))]) (nx + 1)) : DC Try.prog Γ 32 [.ref g 0 m 1, .data (.str u)] H nx K := by
  subst hm
  exact dc_given (cells := bys q) (K0 := fun m c => m = q.length + 17 ∧ c = bys (q ++ nameB u)) (rnamed_dc Γ q u hq hu) hg hgn (by simp) (fun m c ⟨h3, h4⟩ => by subst h3; subst h4; exact h)
set_option maxHeartbeats 4000000 in
theorem rheadBytes_pc (g : Int) : PC Try.prog Γ 22 [.int .i64 g] (if 1 ≤ g ∧ g ≤ 1000000000 then .tup [.sl 1 (bys (padB 128 (headB g.toNat))), .int .i64 0] else .tup [.sl 1 [], .int .i64 1]) := by
  refine pc_by mixed Try.func22 rfl (fun args w => Try.call22 args w) ?_
  by_cases h1 : g < 1
  · rw [if_neg (by omega)]
    simp -implicitDefEqProofs (disch := omega) [go_sem, h1, Try.f22]
    exact ⟨_, ⟨_, rfl, .emp ..⟩, rfl⟩
  by_cases h2 : 1000000000 < g
  · rw [if_neg (by omega)]
    simp -implicitDefEqProofs (disch := omega) [go_sem, h1, h2, Try.f22]
    exact ⟨_, ⟨_, rfl, .emp ..⟩, rfl⟩
  rw [if_pos (by omega)]
  obtain ⟨n, rfl⟩ : ∃ n : Nat, g = n := ⟨g.toNat, by omega⟩
  have e1 : ((n : Int) % 18446744073709551616) = n := by omega
  simp -implicitDefEqProofs (disch := omega) [go_sem, h1, h2, e1]
  refine .inr (put_given Γ (q := [72, 68]) (k := 4) (by simp) (by omega) (by omega) rfl (by simp [go_sem, bys]) (by simp) ?_)
  simp -implicitDefEqProofs (disch := omega) [go_sem]
  refine .inr (filled_given Γ (q := [72, 68] ++ be 4 n) (n := 128) (by simp [be_length]) (by omega) (by simp [be_length]) (by simp [go_sem]) (by simp) ?_)
  simp -implicitDefEqProofs (disch := omega) [go_sem, Try.f22]
  exact ⟨_, ⟨_, rfl, frz_bys (l := padB 128 (headB n)) rfl (.inl rfl) (padB_length (by simp [headB, be_length]))⟩, rfl⟩
end
end Bk
end Go.Proofs.Ytdgklbbgbnapoaa
namespace Go.Proofs.Ytdgklbbgbnapoaa
open Go.RowKit
set_option linter.unusedVariables false
set_option linter.unusedSimpArgs false
set_option maxRecDepth 100000
/-- The same in a drawn region, where what comes back is known. -/
theorem eff_given {P : Program} {Γ : Nat → Option (List Data)} {f : FuncId} {xs : List D} {cells : List Data} {len es n : Nat} {c : List Data}
    (hc : DC P Γ f (.ref 0 0 len es :: xs) (hpL [(0, .blk true (cells.map D.data))]) 1 fun d H' _ => ∃ k n' c', d = .ref k 0 n' es ∧ H' k = .blk true (c'.map D.data) ∧ n' = n ∧ c' = c)
    {H : Nat → Blk} {fr g : Nat} {K : D → List Nat → List (Nat × Blk) → Nat → Prop} (hg : H g = .blk true (cells.map D.data)) (hn : g ≠ fr) (hxs : ∀ x ∈ xs, (∃ y, x = .data y) ∨ ∃ c, x = .cptr c)
    (hk : K (.ref fr 0 n es) [] [(g, .dead), (fr, .blk true (c.map D.data))] 1) : effC P Γ f (.ref g 0 len es :: xs) H fr K := by
  refine ⟨_, _, _, 1, Nat.one_pos, fun H2 _ hu => ⟨hc.1, fun L0 w0 m w vs hwr hres hbey hl hv => ?_⟩, hk⟩
  have hg2 : H2 g = .blk true (cells.map D.data) := (hu g (by simp)).trans hg
  have hmf : m fr = .res := hres 0 Nat.one_pos
  obtain ⟨h1, hlive⟩ := lend hwr hg2
  refine (hc.2 _ _ _ w vs h1 (fun q hq => if_neg (by omega)) (fun q hq => by simp [hpL, show q ≠ 0 by omega]) (by simpa using hl) (lent_args (fun b hb => (hlive b).1 hb) (fun v hvv => ?_) hxs hv)).mono fun e w' ⟨v, d, H', nx', m', he, k1, hvv, k2, k3, k4, k5, k, n', c', hd, h0, e1, e2⟩ => ?_
  · cases hvv with
    | ref _ _ _ _ b sz cap o hm j2 j3 j4 j5 => exact .ref 0 0 len es b sz cap o (by simpa using hm) j2 j3 j4 j5
    | ref0 _ _ a hm => exact .ref0 0 es a (by simpa using hm)
  subst hd
  subst e1
  subst e2
  have hm0 : m' 0 = m g := (k3 0 (by omega)).trans (if_pos rfl)
  have k2' : Grow (Live L0 m H2) w (Live (lentL L0 m H2 g) m' H') w' := ⟨k2.size, fun b hb hL => k2.keep b hb fun h => hL ((hlive b).1 h)⟩
  obtain ⟨a, b, s, hM⟩ := lent_back hwr hg2 k1 k2' hm0 (k := k) (t := fr) (c := c') h0 (.inr ⟨by omega, hmf⟩)
  have same : lentH H2 g fr c' = Hp.upd H2 [(g, .dead), (fr, .blk true (c'.map D.data))] := by
    funext q
    unfold lentH
    by_cases e : q = fr
    · subst e; simp [Hp.upd, Hp.set, hn]
    · by_cases e2 : q = g
      · subst e2; simp [Hp.upd, Hp.set, e]
      · simp [Hp.upd, Hp.set, e, e2, Ne.symm e, Ne.symm e2]
  rw [same] at a b s
  refine ⟨v, he, lentM m m' fr k, a, ?_, b, fun q hq => if_neg (by omega)⟩
  have hMt : lentM m m' fr k fr = m' k := if_pos rfl
  cases hvv with
  | ref _ _ _ _ b2 sz cap o hm j2 j3 j4 j5 => exact .ref fr 0 n' es b2 sz cap o (by rw [hMt]; exact hm) j2 j3 j4 j5
  | ref0 _ _ a2 hm => exact .ref0 fr es a2 (by rw [hMt]; exact hm)
namespace Bk
section
variable (Γ : Nat → Option (List Data))
theorem put_eff {q : List Nat} {n k : Nat} (hq : q.length ≤ 1000000) (hk : k ≤ 8) (hn : n < 18446744073709551616) {H : Nat → Blk} {fr g : Nat} {K : D → List Nat → List (Nat × Blk) → Nat → Prop} {m : Nat} (hm : m = q.length) (hg : H g = .blk true ((bys q).map D.data)) (hgn : g ≠ fr)
    (h : K (.ref fr 0 (q.length + k) 1) [] [(g, .dead), (fr, .blk true ((bys (q ++ be k n)).map D.data))] 1) : effC Try.prog Γ 31 [.ref g 0 m 1, .data (.int .u64 n), .data (.int .i64 k)] H fr K := by
  subst hm
  exact eff_given (cells := bys q) (rput_dc Γ q n k hq hk hn) hg hgn (by simp) h
set_option maxHeartbeats 8000000 in
theorem ropYes_pc (g s k i l a n t c z : Nat) (u : ByteArray) (hP : RecP g s ⟨k, i, l, a, u, n, t, c, z⟩) (h6 : a < 4294967296) (h7 : n < 18446744073709551616) (h8 : t < 18446744073709551616) : PC Try.prog Γ 12 [.int .i64 g, .int .i64 s, op ⟨k, i, l, a, u, n, t, c, z⟩] (.tup [.sl 1 (bys (padB 128 (recB g s ⟨k, i, l, a, u, n, t, c, z⟩))), .int .i64 0]) := by
  have hf := hP.fit ⟨by simp only; omega, by simp only; omega, by simp only; omega⟩
  have hlen := recB_length hf
  obtain ⟨p1, p2, p3⟩ := hP
  have cm := may_pc Γ ⟨k, i, l, a, u, n, t, c, z⟩ (Nat.le_trans hf.op.user (by decide))
  rw [decide_eq_true p3] at cm
  unfold MayP at p3
  simp only at p3
  obtain ⟨m1, m2, m3, m4, m5, m6, m7, m8, m9, m10, m11, m12⟩ := p3
  refine pc_by mixed Try.func12 rfl (fun args w => Try.call12 args w) ?_
  have e0 : ((g : Int) % 18446744073709551616) = g := by omega
  have e1 : ((s : Int) % 18446744073709551616) = s := by omega
  have e2 : ((k : Int) % 18446744073709551616) = k := by omega
  have e3 : ((i : Int) % 18446744073709551616) = i := by omega
  have e4 : ((l : Int) % 18446744073709551616) = l := by omega
  have e5 : ((a : Int) % 18446744073709551616) = a := by omega
  have e6 : ((n : Int) % 18446744073709551616) = n := by omega
  have e7 : ((t : Int) % 18446744073709551616) = t := by omega
  have e8 : ((c : Int) % 18446744073709551616) = c := by omega
  have e9 : ((z : Int) % 18446744073709551616) = z := by omega
  unfold op at cm ⊢
  simp only at cm
  simp -implicitDefEqProofs (disch := omega) [go_sem, e0, e1, e2, e3, e4, e5, e6, e7, e8, e9]
  refine .inl (call_data cm (by simp [go_sem]) ?_)
  simp -implicitDefEqProofs (disch := omega) [go_sem, e0, e1, e2, e3, e4, e5, e6, e7, e8, e9]
  refine .inr (put_given Γ (q := [82, 69]) (k := 4) (by simp [be_length, nameB_length m8]) (by omega) (by omega) (by simp [be_length, nameB_length m8]) (by simp [go_sem, bys]) (by simp) ?_)
  simp -implicitDefEqProofs (disch := omega) [go_sem, e0, e1, e2, e3, e4, e5, e6, e7, e8, e9]
  refine .inr (put_eff Γ (q := [82, 69] ++ be 4 g) (k := 1) (by simp [be_length, nameB_length m8]) (by omega) (by omega) (by simp [be_length, nameB_length m8]) (by simp [go_sem, bys]) (by simp) ?_)
  simp -implicitDefEqProofs (disch := omega) [go_sem, e0, e1, e2, e3, e4, e5, e6, e7, e8, e9]
  refine .inr (put_eff Γ (q := [82, 69] ++ be 4 g ++ be 1 s) (k := 1) (by simp [be_length, nameB_length m8]) (by omega) (by omega) (by simp [be_length, nameB_length m8]) (by simp [go_sem, bys]) (by simp) ?_)
  simp -implicitDefEqProofs (disch := omega) [go_sem, e0, e1, e2, e3, e4, e5, e6, e7, e8, e9]
  refine .inr (put_eff Γ (q := [82, 69] ++ be 4 g ++ be 1 s ++ be 1 k) (k := 4) (by simp [be_length, nameB_length m8]) (by omega) (by omega) (by simp [be_length, nameB_length m8]) (by simp [go_sem, bys]) (by simp) ?_)
  simp -implicitDefEqProofs (disch := omega) [go_sem, e0, e1, e2, e3, e4, e5, e6, e7, e8, e9]
  refine side (by kernel_rfl) ?_
  simp -implicitDefEqProofs (disch := omega) [go_sem, e0, e1, e2, e3, e4, e5, e6, e7, e8, e9]
  refine .inr (put_eff Γ (q := [82, 69] ++ be 4 g ++ be 1 s ++ be 1 k ++ be 4 i) (k := 1) (by simp [be_length, nameB_length m8]) (by omega) (by omega) (by simp [be_length, nameB_length m8]) (by simp [go_sem, bys]) (by simp) ?_)
  simp -implicitDefEqProofs (disch := omega) [go_sem, e0, e1, e2, e3, e4, e5, e6, e7, e8, e9]
  refine .inr (put_eff Γ (q := [82, 69] ++ be 4 g ++ be 1 s ++ be 1 k ++ be 4 i ++ be 1 l) (k := 4) (by simp [be_length, nameB_length m8]) (by omega) (by omega) (by simp [be_length, nameB_length m8]) (by simp [go_sem, bys]) (by simp) ?_)
  simp -implicitDefEqProofs (disch := omega) [go_sem, e0, e1, e2, e3, e4, e5, e6, e7, e8, e9]
  refine side (by kernel_rfl) ?_
  simp -implicitDefEqProofs (disch := omega) [go_sem, e0, e1, e2, e3, e4, e5, e6, e7, e8, e9]
  refine .inr (named_given Γ (q := [82, 69] ++ be 4 g ++ be 1 s ++ be 1 k ++ be 4 i ++ be 1 l ++ be 4 a) (u := u) (by simp [be_length]) m8 (by simp [be_length]) (by simp [go_sem, bys]) (by simp) ?_)
  simp -implicitDefEqProofs (disch := omega) [go_sem, e0, e1, e2, e3, e4, e5, e6, e7, e8, e9]
  refine .inr (put_eff Γ (q := [82, 69] ++ be 4 g ++ be 1 s ++ be 1 k ++ be 4 i ++ be 1 l ++ be 4 a ++ nameB u) (k := 8) (by simp [be_length, nameB_length m8]) (by omega) (by omega) (by simp [be_length, nameB_length m8]) (by simp [go_sem, bys]) (by simp) ?_)
  simp -implicitDefEqProofs (disch := omega) [go_sem, e0, e1, e2, e3, e4, e5, e6, e7, e8, e9]
  refine .inr (put_eff Γ (q := [82, 69] ++ be 4 g ++ be 1 s ++ be 1 k ++ be 4 i ++ be 1 l ++ be 4 a ++ nameB u ++ be 8 n) (k := 8) (by simp [be_length, nameB_length m8]) (by omega) (by omega) (by simp [be_length, nameB_length m8]) (by simp [go_sem, bys]) (by simp) ?_)
  simp -implicitDefEqProofs (disch := omega) [go_sem, e0, e1, e2, e3, e4, e5, e6, e7, e8, e9]
  refine side (by kernel_rfl) ?_
  simp -implicitDefEqProofs (disch := omega) [go_sem, e0, e1, e2, e3, e4, e5, e6, e7, e8, e9]
  refine .inr (put_eff Γ (q := [82, 69] ++ be 4 g ++ be 1 s ++ be 1 k ++ be 4 i ++ be 1 l ++ be 4 a ++ nameB u ++ be 8 n ++ be 8 t) (k := 1) (by simp [be_length, nameB_length m8]) (by omega) (by omega) (by simp [be_length, nameB_length m8]) (by simp [go_sem, bys]) (by simp) ?_)
  simp -implicitDefEqProofs (disch := omega) [go_sem, e0, e1, e2, e3, e4, e5, e6, e7, e8, e9]
  refine .inr (put_eff Γ (q := [82, 69] ++ be 4 g ++ be 1 s ++ be 1 k ++ be 4 i ++ be 1 l ++ be 4 a ++ nameB u ++ be 8 n ++ be 8 t ++ be 1 c) (k := 4) (by simp [be_length, nameB_length m8]) (by omega) (by omega) (by simp [be_length, nameB_length m8]) (by simp [go_sem, bys]) (by simp) ?_)
  simp -implicitDefEqProofs (disch := omega) [go_sem, e0, e1, e2, e3, e4, e5, e6, e7, e8, e9]
  refine side (by kernel_rfl) ?_
  simp -implicitDefEqProofs (disch := omega) [go_sem, e0, e1, e2, e3, e4, e5, e6, e7, e8, e9]
  refine .inr (filled_given Γ (q := [82, 69] ++ be 4 g ++ be 1 s ++ be 1 k ++ be 4 i ++ be 1 l ++ be 4 a ++ nameB u ++ be 8 n ++ be 8 t ++ be 1 c ++ be 4 z) (n := 128) (by simp [be_length, nameB_length m8]) (by omega) (by simp [be_length, nameB_length m8]) (by simp [go_sem, bys]) (by simp) ?_)
  simp -implicitDefEqProofs (disch := omega) [go_sem, Try.f12]
  exact ⟨_, ⟨_, rfl, frz_bys (l := padB 128 (recB g s ⟨k, i, l, a, u, n, t, c, z⟩)) rfl (.inl rfl) (padB_length (by omega))⟩, rfl⟩
set_option maxHeartbeats 4000000 in
theorem ropNo_pc (g s : Int) (o : Op) (hu : o.user.size ≤ 9223372036854775807) (hP : ¬ RecP g s o) : PC Try.prog Γ 12 [.int .i64 g, .int .i64 s, op o] (.tup [.sl 1 [], .int .i64 1]) := by
  have cm := may_pc Γ o hu
  refine pc_by mixed Try.func12 rfl (fun args w => Try.call12 args w) ?_
  unfold op at cm ⊢
  by_cases h1 : g < 1
  · simp -implicitDefEqProofs (disch := omega) [go_sem]
    refine .inl (call_data cm (by simp [go_sem]) ?_)
    simp -implicitDefEqProofs (disch := omega) [go_sem, h1, Try.f12]
    exact ⟨_, ⟨_, rfl, .emp ..⟩, rfl⟩
  by_cases h2 : 1000000000 < g
  · simp -implicitDefEqProofs (disch := omega) [go_sem]
    refine .inl (call_data cm (by simp [go_sem]) ?_)
    simp -implicitDefEqProofs (disch := omega) [go_sem, h1, h2, Try.f12]
    exact ⟨_, ⟨_, rfl, .emp ..⟩, rfl⟩
  by_cases h3 : s < 0
  · simp -implicitDefEqProofs (disch := omega) [go_sem]
    refine .inl (call_data cm (by simp [go_sem]) ?_)
    simp -implicitDefEqProofs (disch := omega) [go_sem, h1, h2, h3, Try.f12]
    exact ⟨_, ⟨_, rfl, .emp ..⟩, rfl⟩
  by_cases h4 : 29 < s
  · simp -implicitDefEqProofs (disch := omega) [go_sem]
    refine .inl (call_data cm (by simp [go_sem]) ?_)
    simp -implicitDefEqProofs (disch := omega) [go_sem, h1, h2, h3, h4, Try.f12]
    exact ⟨_, ⟨_, rfl, .emp ..⟩, rfl⟩
  have hno : ¬ MayP o := fun h => hP ⟨by omega, by omega, h⟩
  rw [decide_eq_false hno] at cm
  simp -implicitDefEqProofs (disch := omega) [go_sem]
  refine .inl (call_data cm (by simp [go_sem]) ?_)
  simp -implicitDefEqProofs (disch := omega) [go_sem, h1, h2, h3, h4, Try.f12]
  exact ⟨_, ⟨_, rfl, .emp ..⟩, rfl⟩
theorem ropBytes_pc (g s : Int) (o : Op) (hr : OpRange o) (hu : o.user.size ≤ 9223372036854775807) : PC Try.prog Γ 12 [.int .i64 g, .int .i64 s, op o] (if RecP g s o then .tup [.sl 1 (bys (padB 128 (recB g s o))), .int .i64 0] else .tup [.sl 1 [], .int .i64 1]) := by
  by_cases h : RecP g s o
  · rw [if_pos h]
    have hP := h
    obtain ⟨p1, p2, p3⟩ := h
    unfold MayP at p3
    obtain ⟨k, i, l, a, u, n, t, c, z⟩ := o
    obtain ⟨r1, r2, r3⟩ := hr
    simp only at p3 r1 r2 r3
    obtain ⟨g, rfl⟩ : ∃ x : Nat, g = x := ⟨g.toNat, by omega⟩
    obtain ⟨s, rfl⟩ : ∃ x : Nat, s = x := ⟨s.toNat, by omega⟩
    obtain ⟨k, rfl⟩ : ∃ x : Nat, k = x := ⟨k.toNat, by omega⟩
    obtain ⟨i, rfl⟩ : ∃ x : Nat, i = x := ⟨i.toNat, by omega⟩
    obtain ⟨l, rfl⟩ : ∃ x : Nat, l = x := ⟨l.toNat, by omega⟩
    obtain ⟨a, rfl⟩ : ∃ x : Nat, a = x := ⟨a.toNat, by omega⟩
    obtain ⟨n, rfl⟩ : ∃ x : Nat, n = x := ⟨n.toNat, by omega⟩
    obtain ⟨t, rfl⟩ : ∃ x : Nat, t = x := ⟨t.toNat, by omega⟩
    obtain ⟨c, rfl⟩ : ∃ x : Nat, c = x := ⟨c.toNat, by omega⟩
    obtain ⟨z, rfl⟩ : ∃ x : Nat, z = x := ⟨z.toNat, by omega⟩
    exact ropYes_pc Γ g s k i l a n t c z u hP (by omega) (by omega) (by omega)
  · rw [if_neg h]
    exact ropNo_pc Γ g s o hu h
end
end Bk
end Go.Proofs.Ytdgklbbgbnapoaa
namespace Go.Proofs.Ytdgklbbgbnapoaa
open Go.RowKit
set_option linter.unusedVariables false
set_option linter.unusedSimpArgs false
set_option maxRecDepth 100000
namespace Bk
def getR (l : List Nat) (a : Nat) : Nat → Nat
  | 0 => 0
  | i + 1 => getR l a i * 256 + l.getD (a + i) 0
theorem getD_byte {l : List Nat} (hl : Bytes l) (i : Nat) : l.getD i 0 < 256 := by
  by_cases h : i < l.length
  · rw [List.getD_eq_getElem?_getD, List.getElem?_eq_getElem h]
    exact hl _ (List.getElem_mem h)
  · rw [List.getD_eq_getElem?_getD, List.getElem?_eq_none (by omega)]
    exact Nat.zero_lt_succ _
theorem getR_lt {l : List Nat} (hl : Bytes l) (a : Nat) : ∀ k, getR l a k < 256 ^ k
  | 0 => by simp [getR]
  | k + 1 => by
    have h1 := getR_lt hl a k
    have h2 := getD_byte hl (a + k)
    rw [getR, Nat.pow_succ]
    have : getR l a k + 1 ≤ 256 ^ k := h1
    have := Nat.mul_le_mul_right 256 this
    omega
section
variable (Γ : Nat → Option (List Data))
set_option maxHeartbeats 4000000 in
theorem rget_pc (l : List Nat) (hl : l.length ≤ 1000000) (hb : Bytes l) (a k : Nat) (ha : a ≤ 1000000) (hk : k ≤ 8) : PC Try.prog Γ 36 [.sl 1 (bys l), .int .i64 a, .int .i64 k] (.int .u64 (getR l a k)) := by
  refine pc_by mixed Try.func36 rfl (fun args w => Try.call36 args w) ?_
  simp -implicitDefEqProofs (disch := omega) [go_sem]
  refine loop_ren (σ := { i : Nat // i ≤ k }) (fun i => ⟨envL [(0, .data (.sl 1 (bys l))), (1, .data (.int .i64 a)), (2, .data (.int .i64 k)), (7, .data (.int .u64 (getR l a i.1))), (8, .data (.int .i64 i.1))], hpL [], 0, 0, 32⟩) (fun i => k - i.1) ⟨0, by omega⟩ [] (rhoL []) ?_ ?_
  · apply ren_lists <;> simp -implicitDefEqProofs [go_sem, getR]
  rintro ⟨i, hi⟩
  by_cases h : i < k
  · have hs : getR l a (i + 1) = getR l a i * 256 + l.getD (a + i) 0 := rfl
    have hy := getR_lt hb a i
    have hp : 256 ^ i ≤ 256 ^ 7 := Nat.pow_le_pow_right (by omega) (by omega)
    have h7 : 256 ^ 7 = 72057594037927936 := by decide
    have hx := getD_byte hb (a + i)
    rw [h7] at hp
    have hy2 : getR l a i < 72057594037927936 := by omega
    clear hy hp h7
    generalize getR l a i = y at *
    have e1 : ((y : Int) * 256 % 18446744073709551616) = ((y * 256 : Nat) : Int) := by omega
    by_cases hai : a + i < l.length
    · have e2 : l[a + i]? = some l[a + i] := List.getElem?_eq_getElem hai
      rw [List.getD_eq_getElem?_getD, e2, Option.getD_some] at hs hx
      generalize l[a + i] = x at *
      have e0 : ((a : Int) + (i : Int)).toNat = a + i := by omega
      have e3 : ((x : Int) % 18446744073709551616) = x := by omega
      have e4 : (((y * 256 : Nat) : Int) + x) % 18446744073709551616 = ((y * 256 + x : Nat) : Int) := by omega
      simp -implicitDefEqProofs (disch := omega) [go_sem, -getElem?_pos, e0, e1, e2, e3, e4]
      refine next_ren ⟨i + 1, by omega⟩ (by simp only; omega) [] (rhoL []) ?_
      apply ren_lists <;> simp -implicitDefEqProofs [go_sem, hs]
      all_goals omega
    · rw [List.getD_eq_getElem?_getD, List.getElem?_eq_none (by omega), Option.getD_none] at hs
      simp -implicitDefEqProofs (disch := omega) [go_sem, e1]
      refine next_ren ⟨i + 1, by omega⟩ (by simp only; omega) [] (rhoL []) ?_
      apply ren_lists <;> simp -implicitDefEqProofs [go_sem, hs]
  have : i = k := by omega
  subst this
  simp -implicitDefEqProofs (disch := omega) [go_sem, Try.f36]
end
end Bk
end Go.Proofs.Ytdgklbbgbnapoaa
namespace Go.Proofs.Ytdgklbbgbnapoaa
open Go.RowKit
set_option linter.unusedVariables false
set_option linter.unusedSimpArgs false
set_option maxRecDepth 100000 in
theorem row_pc (Γ : Nat → Option (List Data)) (a b : List Nat) (ha : a.length ≤ 100000000000) (hb : b.length ≤ 100000000000) : PC Try.prog Γ 15 [.sl 1 (bys a), .sl 1 (bys b)] (.bool (decide (a = b))) := by
  refine pc_by mixed Try.func15 rfl (fun args w => Try.call15 args w) ?_
  simp -implicitDefEqProofs (disch := omega) [go_sem, Try.f15]
  refine ifW_ndec (fun h => ?_) (fun h => ?_)
  · have hne : a ≠ b := fun e => h (by rw [e])
    simp -implicitDefEqProofs (disch := omega) [go_sem, Try.f15, hne]
  · have hl : a.length = b.length := by omega
    simp -implicitDefEqProofs (disch := omega) [go_sem]
    refine loop_of (σ := { i : Nat // i ≤ a.length ∧ ∀ j, j < i → a[j]? = b[j]? }) (fun i => ⟨envL [(0, .data (.sl 1 (bys a))), (1, .data (.sl 1 (bys b))), (5, .data (.int .i64 i.1))], hpL [], 0, 0, 26⟩) (fun i => a.length - i.1) ⟨0, by omega, by omega⟩ ?_ ?_
    · apply weak_lists <;> simp -implicitDefEqProofs [go_sem]
    · rintro ⟨i, hi, heq⟩
      simp -implicitDefEqProofs (disch := omega) [go_sem]
      refine ifW_dec (fun h => ?_) (fun h => ?_)
      · have hia : i < a.length := by omega
        simp -implicitDefEqProofs (disch := omega) [go_sem]
        refine side (by kernel_rfl) ?_
        simp -implicitDefEqProofs (disch := omega) [go_sem]
        refine ifW_ndec (fun h2 => ?_) (fun h2 => ?_)
        · have hne : a ≠ b := fun e => h2 (by subst e; rfl)
          simp -implicitDefEqProofs (disch := omega) [go_sem, Try.f15, hne]
        · simp -implicitDefEqProofs (disch := omega) [go_sem]
          refine next_of ⟨i + 1, by omega, fun j hj => ?_⟩ ?_ (by simp only; omega)
          · by_cases e : j = i
            · subst e
              rw [List.getElem?_eq_getElem hia, List.getElem?_eq_getElem (by omega)]
              congr 1
              omega
            · exact heq j (by omega)
          apply weak_lists <;> simp -implicitDefEqProofs [go_sem]
      · have hab : a = b := List.ext_getElem? fun j => by
          by_cases hj : j < a.length
          · exact heq j (by omega)
          · rw [List.getElem?_eq_none (by omega), List.getElem?_eq_none (by omega)]
        simp -implicitDefEqProofs (disch := omega) [go_sem, Try.f15, hab]
end Go.Proofs.Ytdgklbbgbnapoaa
namespace Go.Proofs.Ytdgklbbgbnapoaa
open Go.RowKit
set_option linter.unusedVariables false
set_option linter.unusedSimpArgs false
set_option maxRecDepth 100000
namespace Bk
def HeadIs (l : List Nat) : Prop := (1 ≤ ((getR l 2 4 : Nat) : Int) ∧ ((getR l 2 4 : Nat) : Int) ≤ 1000000000) ∧ l = padB 128 (headB (getR l 2 4))
instance (l : List Nat) : Decidable (HeadIs l) := by unfold HeadIs; infer_instance
section
variable (Γ : Nat → Option (List Data))
set_option maxHeartbeats 4000000 in
theorem rreadHead_pc (l : List Nat) (hl : l.length ≤ 1000000) (hb : Bytes l) : PC Try.prog Γ 24 [.sl 1 (bys l)] (if HeadIs l then .tup [.int .i64 (getR l 2 4), .int .i64 0] else .tup [.int .i64 0, .int .i64 2]) := by
  refine pc_by mixed Try.func24 rfl (fun args w => Try.call24 args w) ?_
  have cg := rget_pc Γ l hl hb 2 4 (by omega) (by omega)
  have hlt := getR_lt hb 2 4
  have h4 : 256 ^ 4 = 4294967296 := by decide
  have ch := rheadBytes_pc Γ (getR l 2 4 : Nat)
  rw [h4] at hlt
  clear h4
  have e1 : IntKind.i64.wrap ((getR l 2 4 : Nat) : Int) = ((getR l 2 4 : Nat) : Int) := by rw [IntKind.wrap_i64]; omega
  simp -implicitDefEqProofs (disch := omega) [go_sem]
  refine .inl (call_data cg (by simp [go_sem]) ?_)
  simp -implicitDefEqProofs (disch := omega) [go_sem, e1]
  by_cases h : 1 ≤ ((getR l 2 4 : Nat) : Int) ∧ ((getR l 2 4 : Nat) : Int) ≤ 1000000000
  · rw [if_pos h] at ch
    have hpl : (padB 128 (headB (getR l 2 4))).length = 128 := padB_length (by simp [headB, be_length])
    have cr := row_pc Γ l (padB 128 (headB (getR l 2 4))) (by omega) (by omega)
    refine .inl (call_data ch (by simp [go_sem]) ?_)
    simp -implicitDefEqProofs (disch := omega) [go_sem]
    refine .inl (call_data cr (by simp [go_sem]) ?_)
    by_cases h2 : l = padB 128 (headB (getR l 2 4))
    · rw [decide_eq_true h2, if_pos (show HeadIs l from ⟨h, h2⟩)]
      simp -implicitDefEqProofs (disch := omega) [go_sem, Try.f24]
    · rw [decide_eq_false h2, if_neg fun e : HeadIs l => h2 e.2]
      simp -implicitDefEqProofs (disch := omega) [go_sem, Try.f24]
  · rw [if_neg h] at ch
    rw [if_neg fun e : HeadIs l => h e.1]
    refine .inl (call_data ch (by simp [go_sem]) ?_)
    simp -implicitDefEqProofs (disch := omega) [go_sem]
    have cr := row_pc Γ l [] (by omega) (by simp)
    refine .inl (call_data cr (by simp [go_sem]) ?_)
    simp -implicitDefEqProofs (disch := omega) [go_sem, Try.f24]
end
end Bk
end Go.Proofs.Ytdgklbbgbnapoaa
namespace Go.Proofs.Ytdgklbbgbnapoaa
open Go.RowKit
set_option linter.unusedVariables false
set_option linter.unusedSimpArgs false
set_option maxRecDepth 100000
namespace Bk
theorem letP_iff {u : ByteArray} {l l' : List Nat} {r : Data} (hl : Bytes l) : letP u l = some (r, l') ↔ r = .tup [] ∧ l = strB u ++ l' := by
  constructor
  · intro h
    obtain ⟨h1, h2, h3, h4⟩ := letP_rest h
    refine ⟨h1, ?_⟩
    rw [h2, ← h4, strB_toStr fun x hx => hl x (List.mem_of_mem_take hx), h4, List.take_append_drop]
  · rintro ⟨rfl, rfl⟩
    have e1 : (strB u ++ l').take u.size = strB u := by rw [← strB_length u, List.take_left]
    have e2 : (strB u ++ l').drop u.size = l' := by rw [← strB_length u, List.drop_left]
    unfold letP
    rw [e1, e2, if_pos ⟨by rw [List.length_append, strB_length]; omega, toStr_strB u⟩]
theorem zeros_eq {l : List Nat} : (∀ x ∈ l, x = 0) ↔ l = List.replicate l.length 0 := by
  rw [List.eq_replicate_iff]
  simp
theorem be_bytes (k n : Nat) : Bytes (be k n) := be_lt k n
theorem headP_iff {l : List Nat} (hl : Bytes l) (n : Nat) (r : List Nat) : headP l = some (n, r) ↔ (1 ≤ (n : Int) ∧ (n : Int) ≤ 1000000000) ∧ l = padB 128 (headB n) ∧ r = List.replicate 122 0 := by
  unfold headP
  constructor
  · intro h
    split at h
    rotate_left
    · cases h
    rename_i hlen
    simp only [bnd_some] at h
    obtain ⟨x, l1, h1, n', l2, h2, h3⟩ := h
    obtain ⟨rfl, e1⟩ := (letP_iff hl).1 h1
    subst e1
    have hb1 : Bytes l1 := (bytes_app.1 hl).2
    obtain ⟨e2, hn⟩ := (numP_iff hb1 _ _).1 h2
    subst e2
    split at h3
    rotate_left
    · cases h3
    rename_i hc
    simp only [Option.some.injEq, Prod.mk.injEq] at h3
    obtain ⟨rfl, rfl⟩ := h3
    obtain ⟨hg, hz⟩ := hc
    have hl2 : l2.length = 122 := by
      simp [strB_length, be_length, uHD_size] at hlen; omega
    rw [zeros_eq, hl2] at hz
    refine ⟨hg, ?_, hz⟩
    rw [hz]
    simp only [padB, headB, List.append_assoc]
    rfl
  · rintro ⟨hg, rfl, rfl⟩
    have e : padB 128 (headB n) = strB uHD ++ (be 4 n ++ List.replicate 122 0) := by
      unfold padB
      have : (headB n).length = 6 := by simp [headB, be_length]
      rw [this]
      simp only [headB, List.append_assoc]
      rfl
    have hlen : (padB 128 (headB n)).length = 128 := padB_length (by simp [headB, be_length])
    rw [if_pos hlen]
    rw [e] at hl ⊢
    have hb1 := (bytes_app.1 hl).2
    rw [(letP_iff hl).2 ⟨rfl, rfl⟩]
    simp only [bnd]
    rw [(numP_iff hb1 n _).2 ⟨rfl, by have : 256 ^ 4 = 4294967296 := by decide
                                      omega⟩]
    simp only
    rw [if_pos ⟨hg, by simp⟩]
theorem getR_take {l : List Nat} {a : Nat} (p : List Nat) (h : ∀ (i : Nat) (hi : i < p.length), l.getD (a + i) 0 = p[i]) : ∀ i, i ≤ p.length → getR l a i = ofBe (p.take i)
  | 0, _ => rfl
  | i + 1, hi => by
    rw [getR, getR_take p h i (by omega), h i (by omega), ofBe_take p i (by omega)]
/-- A number told in bytes is found there. -/
theorem getR_at {x y : List Nat} {k n : Nat} (hn : n < 256 ^ k) : getR (x ++ (be k n ++ y)) x.length k = n := by
  have hbl := be_length k n
  have h := getR_take (l := x ++ (be k n ++ y)) (a := x.length) (be k n) (fun i hi => by
    rw [List.getD_eq_getElem?_getD, List.getElem?_append_right (by omega), show x.length + i - x.length = i by omega, List.getElem?_append_left hi, List.getElem?_eq_getElem hi, Option.getD_some]) k (by omega)
  rw [h, List.take_of_length_le (by omega), ofBe_be k n hn]
theorem headIs_iff {l : List Nat} (hl : Bytes l) : HeadIs l ↔ ∃ n r, headP l = some (n, r) := by
  constructor
  · rintro ⟨h1, h2⟩
    exact ⟨_, _, (headP_iff hl _ _).2 ⟨h1, h2, rfl⟩⟩
  · rintro ⟨n, r, h⟩
    obtain ⟨h1, h2, _⟩ := (headP_iff hl _ _).1 h
    have e : getR l 2 4 = n := by
      rw [h2]
      exact getR_at (x := [72, 68]) (k := 4) (n := n) (y := List.replicate (128 - (headB n).length) 0) (by have : 256 ^ 4 = 4294967296 := by decide
                                                                                                           omega)
    unfold HeadIs
    rw [e]
    exact ⟨h1, h2⟩
theorem head_same {l : List Nat} (hl : Bytes l) : (if HeadIs l then (((getR l 2 4 : Nat) : Int), (0 : Int)) else (0, 2)) = (gotN (headP l), gotE (headP l)) := by
  cases hp : headP l with
  | none =>
    rw [if_neg fun h => by obtain ⟨n, r, h⟩ := (headIs_iff hl).1 h; rw [hp] at h; cases h]
    rfl
  | some x =>
    obtain ⟨n, r⟩ := x
    rw [if_pos ((headIs_iff hl).2 ⟨n, r, hp⟩)]
    obtain ⟨h1, h2, _⟩ := (headP_iff hl _ _).1 hp
    have e : getR l 2 4 = n := by
      rw [h2]
      exact getR_at (x := [72, 68]) (k := 4) (n := n) (y := List.replicate (128 - (headB n).length) 0) (by have : 256 ^ 4 = 4294967296 := by decide
                                                                                                           omega)
    rw [e]
    rfl
theorem recB_split (g s : Nat) (o : Op) (y : List Nat) : recB g s o ++ y = strB uRE ++ (be 4 g ++ (be 1 s ++ (opB o ++ y))) := by
  simp only [recB, List.append_assoc]
  rfl
theorem recordP_iff {l : List Nat} (hl : Bytes l) (g s : Nat) (o : Op) (r : List Nat) : recordP l = some ((g, s, o), r) ↔ RecP g s o ∧ RecFit g s o ∧ l = padB 128 (recB g s o) ∧ r = List.replicate 73 0 := by
  unfold recordP
  constructor
  · intro h
    split at h
    rotate_left
    · cases h
    rename_i hlen
    simp only [bnd_some] at h
    obtain ⟨x, l1, h1, g', l2, h2, s', l3, h3, o', l4, h4, h5⟩ := h
    obtain ⟨rfl, e1⟩ := (letP_iff hl).1 h1
    subst e1
    have hb1 : Bytes l1 := (bytes_app.1 hl).2
    obtain ⟨e2, hg4⟩ := (numP_iff hb1 _ _).1 h2
    subst e2
    have hb2 : Bytes l2 := (bytes_app.1 hb1).2
    obtain ⟨e3, hs1⟩ := (numP_iff hb2 _ _).1 h3
    subst e3
    have hb3 : Bytes l3 := (bytes_app.1 hb2).2
    obtain ⟨e4, ho⟩ := (opP_iff hb3 _ _).1 h4
    subst e4
    split at h5
    rotate_left
    · cases h5
    rename_i hc
    simp only [Option.some.injEq, Prod.mk.injEq] at h5
    obtain ⟨⟨rfl, rfl, rfl⟩, rfl⟩ := h5
    obtain ⟨hP, hz⟩ := hc
    have hf : RecFit g' s' o' := ⟨fit_nat hg4, fit_nat hs1, ho⟩
    rw [← recB_split] at hlen ⊢
    rw [List.length_append, recB_length hf] at hlen
    have hl4 : l4.length = 73 := by omega
    rw [zeros_eq, hl4] at hz
    refine ⟨hP, hf, ?_, hz⟩
    rw [hz]
    unfold padB
    rw [recB_length hf]
  · rintro ⟨hP, hf, rfl, rfl⟩
    have hlen : (padB 128 (recB g s o)).length = 128 := padB_length (by rw [recB_length hf]; omega)
    rw [if_pos hlen]
    have e : padB 128 (recB g s o) = strB uRE ++ (be 4 g ++ (be 1 s ++ (opB o ++ List.replicate 73 0))) := by
      rw [← recB_split]
      unfold padB
      rw [recB_length hf]
    rw [e] at hl ⊢
    have hb1 := (bytes_app.1 hl).2
    have hb2 := (bytes_app.1 hb1).2
    have hb3 := (bytes_app.1 hb2).2
    have hg := hf.gen
    have hs := hf.seq
    unfold Fit at hg hs
    rw [(letP_iff hl).2 ⟨rfl, rfl⟩]
    simp only [bnd]
    rw [(numP_iff hb1 g _).2 ⟨rfl, by omega⟩]
    simp only
    rw [(numP_iff hb2 s _).2 ⟨rfl, by omega⟩]
    simp only
    rw [(opP_iff hb3 o _).2 ⟨rfl, hf.op⟩]
    simp only
    rw [if_pos ⟨hP, by simp⟩]
/-- A record that is written is bytes. -/
theorem nameB_bytes {u : ByteArray} (h : u.size ≤ 16) : Bytes (nameB u) := by
  intro x hx
  unfold nameB at hx
  rcases List.mem_cons.1 hx with rfl | hx
  · omega
  rcases List.mem_append.1 hx with hx | hx
  · exact strB_lt u x hx
  · rw [(List.mem_replicate.1 hx).2]; omega
theorem padB_bytes {n : Nat} {l : List Nat} (h : Bytes l) : Bytes (padB n l) := by
  intro x hx
  rcases List.mem_append.1 hx with hx | hx
  · exact h x hx
  · rw [(List.mem_replicate.1 hx).2]; omega
theorem opB_bytes {o : Op} (h : o.user.size ≤ 16) : Bytes (opB o) := by
  unfold opB
  simp only [bytes_app]
  exact ⟨be_bytes _ _, be_bytes _ _, be_bytes _ _, be_bytes _ _, nameB_bytes h, be_bytes _ _, be_bytes _ _, be_bytes _ _, be_bytes _ _⟩
theorem recB_bytes {g s : Int} {o : Op} (h : o.user.size ≤ 16) : Bytes (recB g s o) := by
  unfold recB
  simp only [bytes_app]
  exact ⟨be_bytes _ _, be_bytes _ _, be_bytes _ _, be_bytes _ _, opB_bytes h⟩
/-- What is written as a record is read as that record. -/
theorem record_back {g s : Int} {o : Op} (h : RecP g s o) (hr : OpRange o) : recordP (padB 128 (recB g s o)) = some ((g.toNat, s.toNat, o), List.replicate 73 0) := by
  have hf := h.fit hr
  have eg := hf.gen.eq
  have es := hf.seq.eq
  have := (recordP_iff (l := padB 128 (recB g s o)) (padB_bytes (recB_bytes hf.op.user)) g.toNat s.toNat o (List.replicate 73 0)).2 (by
    rw [eg, es]
    exact ⟨h, hf, rfl, rfl⟩)
  exact this
/-- A record's bytes tell the record. -/
theorem record_apart {g s g' s' : Int} {o o' : Op} (h : RecP g s o) (hr : OpRange o) (h' : RecP g' s' o') (hr' : OpRange o') (e : padB 128 (recB g s o) = padB 128 (recB g' s' o')) : g = g' ∧ s = s' ∧ o = o' := by
  have e1 := record_back h hr
  have e2 := record_back h' hr'
  rw [e, e2] at e1
  simp only [Option.some.injEq, Prod.mk.injEq] at e1
  obtain ⟨⟨e3, e4, e5⟩, _⟩ := e1
  have a1 := (h.fit hr).gen.eq
  have a2 := (h.fit hr).seq.eq
  have a3 := (h'.fit hr').gen.eq
  have a4 := (h'.fit hr').seq.eq
  exact ⟨by omega, by omega, e5.symm⟩
/-- No head is a record. -/
theorem head_no_record {l : List Nat} (hl : Bytes l) {x y} (h1 : headP l = some x) (h2 : recordP l = some y) : False := by
  obtain ⟨n, r⟩ := x
  obtain ⟨⟨g, s, o⟩, r2⟩ := y
  obtain ⟨_, e1, _⟩ := (headP_iff hl _ _).1 h1
  obtain ⟨_, _, e2, _⟩ := (recordP_iff hl _ _ _ _).1 h2
  have e3 := e1.symm.trans e2
  have a1 : (padB 128 (headB n))[0]? = some 72 := rfl
  have a2 : (padB 128 (recB g s o))[0]? = some 82 := rfl
  rw [e3, a2] at a1
  cases a1
end Bk
end Go.Proofs.Ytdgklbbgbnapoaa
