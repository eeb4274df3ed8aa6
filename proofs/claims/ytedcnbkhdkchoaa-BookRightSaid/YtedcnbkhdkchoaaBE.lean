/- Books: what is done to one, and what closes all, of the document -/
import Derived.Test.YtedcnbkhdkchoaaBC
namespace Go.Proofs.Ytedcnbkhdkchoaa
open Go.RowKit
set_option linter.unusedVariables false
set_option linter.unusedSimpArgs false
set_option maxRecDepth 100000
namespace Bk
theorem flat_sess1 (x : Sess) : flat (sesss [x]) = [.int .i64 x.id, .int .i64 x.link, .int .u32 x.addr, .str x.user, .int .u64 x.inn, .int .u64 x.out] := rfl
def Busy (b : Book) (o : Op) : Prop := ∃ (i : Nat) (h : i < b.opn.length), b.opn[i].link = o.link ∨ b.opn[i].addr = o.addr
open Classical in
noncomputable def openedOp (b : Book) (o : Op) : Book × Int :=
  if ¬ poolOk o.addr then (b, 1)
  else if Busy b o then (b, 6)
  else if (b.items.length : Int) + b.opn.length + 2 > 60 ∨ b.next = 1000000000 then (b, 4)
  else ({ next := b.next + 1, opn := b.opn ++ [⟨b.next, o.link, o.addr, o.user, 0, 0⟩], items := b.items ++ [⟨1, b.next, 0, 0, 0⟩], locks := b.locks }, 0)
def out (r : Book × Int) : Data := .tup [book r.1, .int .i64 r.2]
set_option maxHeartbeats 4000000 in
set_option maxRecDepth 100000 in
theorem opened_pc (Γ : Nat → Option (List Data)) (b : Book) (o : Op) (hb : Fits b) (h0 : 0 ≤ b.next ∧ b.next ≤ 1000000000) : PC Try.prog Γ 51 [book b, op o] (out (openedOp b o)) := by
  refine pc_by mixed Try.func51 rfl (fun args w => Try.call51 args w) ?_
  obtain ⟨bo, bi, bl, -, -⟩ := hb
  have hp := pool_pc Γ o.addr
  simp -implicitDefEqProofs (disch := omega) [go_sem, book, op]
  refine .inl (call_data hp (by simp [go_sem]) ?_)
  by_cases g1 : poolOk o.addr
  rotate_left
  · have hr : openedOp b o = (b, 1) := by unfold openedOp; rw [if_pos g1]
    simp -implicitDefEqProofs (disch := omega) [go_sem, g1, hr, out, book, Try.results51]
  simp -implicitDefEqProofs (disch := omega) [go_sem, g1]
  refine loop_ren (σ := { i : Nat // i ≤ b.opn.length ∧ ∀ (j : Nat) (h : j < b.opn.length), j < i → b.opn[j].link ≠ o.link ∧ b.opn[j].addr ≠ o.addr }) (fun i => ⟨envL [(2, .ptr 0 0), (3, .ptr 1 0), (4, .ptr 2 0), (5, .data (.int .i64 0)), (7, .data (.int .i64 i.1))], hpL [(0, .blk true [.data (.int .i64 b.next), .data (.sl 6 (sesss b.opn)), .data (.sl 5 (items b.items)), .data (.sl 3 (locks b.locks))]), (1, .blk true [.data (.int .i64 o.kind), .data (.int .i64 o.id), .data (.int .i64 o.link), .data (.int .u32 o.addr), .data (.str o.user), .data (.int .u64 o.inn), .data (.int .u64 o.out), .data (.int .i64 o.cause), .data (.int .i64 o.at_)]), (2, .blk true [.data (.int .i64 0), .emp 0, .emp 0, .emp 0])], 3, 0, 84⟩) (fun i => b.opn.length - i.1) ⟨0, by omega, by omega⟩ [] (rhoL [(0, some 0), (1, some 1), (2, some 2)]) ?_ ?_
  · apply ren_lists <;> simp -implicitDefEqProofs [go_sem]
  rintro ⟨i, hi, hall⟩
  by_cases h : i < b.opn.length
  · by_cases he : b.opn[i].link = o.link
    · have hr : openedOp b o = (b, 6) := by unfold openedOp; rw [if_neg (by simpa using g1), if_pos ⟨i, h, .inl he⟩]
      simp -implicitDefEqProofs (disch := omega) [go_sem, he]
      refine side (by kernel_rfl) ?_
      simp -implicitDefEqProofs (disch := omega) [go_sem, hr, out, book, Try.results51]
    · by_cases ha : b.opn[i].addr = o.addr
      · have hr : openedOp b o = (b, 6) := by unfold openedOp; rw [if_neg (by simpa using g1), if_pos ⟨i, h, .inr ha⟩]
        simp -implicitDefEqProofs (disch := omega) [go_sem, he, ha]
        refine side (by kernel_rfl) ?_
        simp -implicitDefEqProofs (disch := omega) [go_sem, hr, out, book, Try.results51]
      · simp -implicitDefEqProofs (disch := omega) [go_sem, he, ha]
        refine side (by kernel_rfl) ?_
        simp -implicitDefEqProofs (disch := omega) [go_sem]
        refine next_ren ⟨i + 1, by omega, fun j hj hl => if e : j = i then by subst e; exact ⟨he, ha⟩ else hall j hj (by omega)⟩ (by simp only; omega) [] (rhoL [(0, some 0), (1, some 1), (2, some 2)]) ?_
        apply ren_lists <;> simp -implicitDefEqProofs [go_sem]
  have hfree : ¬ Busy b o := by
    rintro ⟨j, hj, hk⟩
    have := hall j hj (by omega)
    rcases hk with hk | hk
    · exact this.1 hk
    · exact this.2 hk
  by_cases g2 : (b.items.length : Int) + b.opn.length + 2 > 60
  · have hr : openedOp b o = (b, 4) := by unfold openedOp; rw [if_neg (by simpa using g1), if_neg hfree, if_pos (.inl g2)]
    simp -implicitDefEqProofs (disch := omega) [go_sem, hr, out, book, Try.results51]
  by_cases g3 : b.next = 1000000000
  · have hr : openedOp b o = (b, 4) := by unfold openedOp; rw [if_neg (by simpa using g1), if_neg hfree, if_pos (.inr g3)]
    simp -implicitDefEqProofs (disch := omega) [go_sem, hr, out, book, Try.results51]
  have hr : openedOp b o = ({ next := b.next + 1, opn := b.opn ++ [⟨b.next, o.link, o.addr, o.user, 0, 0⟩], items := b.items ++ [⟨1, b.next, 0, 0, 0⟩], locks := b.locks }, 0) := by unfold openedOp; rw [if_neg (by simpa using g1), if_neg hfree, if_neg (by simp [g3]; omega)]
  have hw := with_pc Γ b (by omega) ⟨1, b.next, 0, 0, 0⟩
  simp -implicitDefEqProofs (disch := omega) [go_sem]
  refine .inl (call_data hw (by simp [go_sem, book, item]) ?_)
  simp -implicitDefEqProofs (disch := omega) [go_sem, book, withLine]
  refine side (by kernel_rfl) ?_
  simp -implicitDefEqProofs (disch := omega) [go_sem, hr, out, book, Try.results51]
  refine ⟨_, ⟨_, rfl, frz_aggL (frzL_c ((frz_data _ _ _ _).2 rfl) (frzL_c (fz_sesss (rw := true) (l := b.opn ++ [⟨b.next, o.link, o.addr, o.user, 0, 0⟩]) (by simp [go_sem, ← sesss_append, flat_sess1]) (.inl rfl) (by simp)) (frzL_c ((frz_data _ _ _ _).2 rfl) (frzL_c ((frz_data _ _ _ _).2 rfl) frzL_n))))⟩, ?_⟩
  rfl
theorem first_range {α : Type} (p : α → Bool) : ∀ (l : List α) (n : Nat), first p n l = -1 ∨ (n : Int) ≤ first p n l ∧ first p n l < n + l.length
  | [], n => .inl rfl
  | a :: l, n => by
    have ih := first_range p l (n + 1)
    simp only [first, List.length_cons]
    split
    · right; omega
    · rcases ih with h | h
      · exact .inl h
      · right; omega
@[go_sem] theorem sesss_take (l : List Sess) (n : Nat) : List.take n (sesss l) = sesss (l.take n) := by simp [sesss]
@[go_sem] theorem sesss_drop (l : List Sess) (n : Nat) : List.drop n (sesss l) = sesss (l.drop n) := by simp [sesss]
theorem sess_cut (l : List Sess) (n : Nat) (h : n < l.length) : List.take 6 (List.drop (n * 6) ((flat (sesss l)).map D.data)) = [.data (.int .i64 l[n].id), .data (.int .i64 l[n].link), .data (.int .u32 l[n].addr), .data (.str l[n].user), .data (.int .u64 l[n].inn), .data (.int .u64 l[n].out)] := by
  rw [← List.map_drop, ← flat_drop (sesss_cells l) n (by rw [sesss_length]; omega), sesss_drop, List.drop_eq_getElem_cons h]
  rfl
theorem sess_set (l : List Sess) (n : Nat) (h : n < l.length) (x : Sess) : List.take (n * 6) ((flat (sesss l)).map D.data) ++ .data (.int .i64 x.id) :: .data (.int .i64 x.link) :: .data (.int .u32 x.addr) :: .data (.str x.user) :: .data (.int .u64 x.inn) :: .data (.int .u64 x.out) :: List.drop (n * 6 + 6) ((flat (sesss l)).map D.data) = (flat (sesss (l.set n x))).map D.data := by
  have e : n * 6 + 6 = (n + 1) * 6 := by omega
  rw [e, ← List.map_take, ← List.map_drop, ← flat_take (sesss_cells l) n (by rw [sesss_length]; omega), ← flat_drop (sesss_cells l) (n + 1) (by rw [sesss_length]; omega), sesss_take, sesss_drop, List.set_eq_take_append_cons_drop, if_pos h, ← sesss_append, List.map_append]
  rfl
def countedAt (b : Book) (o : Op) (k : Int) : Book × Int :=
  if k < 0 then (b, 5)
  else if (b.opn.getD k.toNat default).inn > o.inn ∨ (b.opn.getD k.toNat default).out > o.out then (b, 7)
  else if o.kind = 3 then ({ b with items := b.items ++ [⟨3, o.id, o.inn, o.out, o.cause⟩], opn := b.opn.take k.toNat ++ b.opn.drop (k.toNat + 1) }, 0)
  else if (b.items.length : Int) + b.opn.length + 1 > 60 then (b, 4)
  else ({ b with items := b.items ++ [⟨2, o.id, o.inn, o.out, 0⟩], opn := b.opn.set k.toNat { b.opn.getD k.toNat default with inn := o.inn, out := o.out } }, 0)
def countedOp (b : Book) (o : Op) : Book × Int := countedAt b o (ofId b o.id)
set_option maxHeartbeats 4000000 in
set_option maxRecDepth 100000 in
theorem counted_pc (Γ : Nat → Option (List Data)) (b : Book) (o : Op) (hb : Fits b) (hi : b.items.length ≤ 1000000) (ho : b.opn.length ≤ 1000000) : PC Try.prog Γ 52 [book b, op o] (out (countedOp b o)) := by
  refine pc_by mixed Try.func52 rfl (fun args w => Try.call52 args w) ?_
  have hk := of_pc Γ b hb o.id
  have hrg := first_range (fun s : Sess => decide (s.id = o.id)) b.opn 0
  obtain ⟨bo, bi, bl, -, -⟩ := hb
  have hr0 : countedOp b o = countedAt b o (ofId b o.id) := rfl
  rw [hr0]; clear hr0
  change ofId b o.id = -1 ∨ _ ≤ ofId b o.id ∧ ofId b o.id < _ at hrg
  generalize ofId b o.id = k at *
  simp -implicitDefEqProofs (disch := omega) [go_sem, book, op]
  refine .inl (call_data hk (by simp [go_sem, book]) ?_)
  by_cases g1 : k < 0
  · have hr : countedAt b o k = (b, 5) := by unfold countedAt; rw [if_pos g1]
    simp -implicitDefEqProofs (disch := omega) [go_sem, hr, out, book, Try.results52]
  obtain ⟨n, rfl⟩ : ∃ n : Nat, k = n := ⟨k.toNat, by omega⟩
  have hn : n < b.opn.length := by omega
  have hgd : b.opn.getD ((n : Int)).toNat default = b.opn[n] := by rw [Int.toNat_natCast, List.getD_eq_getElem?_getD, List.getElem?_eq_getElem hn]; rfl
  by_cases g2 : b.opn[n].inn > o.inn
  · have hr : countedAt b o n = (b, 7) := by unfold countedAt; rw [if_neg g1, hgd, if_pos (.inl g2)]
    simp -implicitDefEqProofs (disch := omega) [go_sem]
    refine side (by kernel_rfl) ?_
    simp -implicitDefEqProofs (disch := omega) [go_sem, hr, out, book, Try.results52]
  by_cases g3 : b.opn[n].out > o.out
  · have hr : countedAt b o n = (b, 7) := by unfold countedAt; rw [if_neg g1, hgd, if_pos (.inr g3)]
    simp -implicitDefEqProofs (disch := omega) [go_sem]
    refine side (by kernel_rfl) ?_
    simp -implicitDefEqProofs (disch := omega) [go_sem, hr, out, book, Try.results52]
  have g23 : ¬ (b.opn[n].inn > o.inn ∨ b.opn[n].out > o.out) := by omega
  simp -implicitDefEqProofs (disch := omega) [go_sem]
  refine side (by kernel_rfl) ?_
  by_cases g4 : o.kind = 3
  · have hr : countedAt b o n = ({ b with items := b.items ++ [⟨3, o.id, o.inn, o.out, o.cause⟩], opn := b.opn.take n ++ b.opn.drop (n + 1) }, 0) := by unfold countedAt; rw [if_neg g1, hgd, if_neg g23, if_pos g4, Int.toNat_natCast]
    have hw := with_pc Γ b hi ⟨3, o.id, o.inn, o.out, o.cause⟩
    simp -implicitDefEqProofs (disch := omega) [go_sem, g4]
    refine .inl (call_data hw (by simp [go_sem, book, item]) ?_)
    simp -implicitDefEqProofs (disch := omega) [go_sem, book, withLine]
    refine side (by kernel_rfl) ?_
    simp -implicitDefEqProofs (disch := omega) [go_sem, hr, out, book, Try.results52]
    refine ⟨_, ⟨_, rfl, frz_aggL (frzL_c ((frz_data _ _ _ _).2 rfl) (frzL_c (fz_sesss (rw := true) (l := b.opn.take n ++ b.opn.drop (n + 1)) (by simp [go_sem, ← sesss_append]) (.inl rfl) (by simp; omega)) (frzL_c ((frz_data _ _ _ _).2 rfl) (frzL_c ((frz_data _ _ _ _).2 rfl) frzL_n))))⟩, ?_⟩
    rfl
  by_cases g5 : (b.items.length : Int) + b.opn.length + 1 > 60
  · have hr : countedAt b o n = (b, 4) := by unfold countedAt; rw [if_neg g1, hgd, if_neg g23, if_neg g4, if_pos g5]
    simp -implicitDefEqProofs (disch := omega) [go_sem, g4, hr, out, book, Try.results52]
  have hr : countedAt b o n = ({ b with items := b.items ++ [⟨2, o.id, o.inn, o.out, 0⟩], opn := b.opn.set n { b.opn[n] with inn := o.inn, out := o.out } }, 0) := by unfold countedAt; rw [if_neg g1, hgd, if_neg g23, if_neg g4, if_neg g5, Int.toNat_natCast]
  have hw := with_pc Γ b hi ⟨2, o.id, o.inn, o.out, 0⟩
  simp -implicitDefEqProofs (disch := omega) [go_sem, g4]
  refine .inl (call_data hw (by simp [go_sem, book, item]) ?_)
  simp -implicitDefEqProofs (disch := omega) [go_sem, book, withLine, sess_cut b.opn n hn]
  simp only [hr, out, book]
  refine ⟨_, ⟨_, rfl, frz_aggL (frzL_c ((frz_data _ _ _ _).2 rfl) (frzL_c (fz_sesss (rw := true) (l := b.opn.set n { b.opn[n] with inn := o.inn, out := o.out }) (by have := sess_set b.opn n hn { b.opn[n] with inn := o.inn, out := o.out }; simp [go_sem, ← this]) (.inl rfl) (by simp)) (frzL_c ((frz_data _ _ _ _).2 rfl) (frzL_c ((frz_data _ _ _ _).2 rfl) frzL_n))))⟩, ?_⟩
  rfl
@[go_sem] theorem locks_take (l : List Lock) (n : Nat) : List.take n (locks l) = locks (l.take n) := by simp [locks]
@[go_sem] theorem locks_drop (l : List Lock) (n : Nat) : List.drop n (locks l) = locks (l.drop n) := by simp [locks]
theorem flat_lock1 (x : Lock) : flat (locks [x]) = [.str x.user, .int .i64 x.n, .int .i64 x.at_] := rfl
theorem lock_set (l : List Lock) (n : Nat) (h : n < l.length) (x : Lock) : List.take (n * 3) ((flat (locks l)).map D.data) ++ .data (.str x.user) :: .data (.int .i64 x.n) :: .data (.int .i64 x.at_) :: List.drop (n * 3 + 3) ((flat (locks l)).map D.data) = (flat (locks (l.set n x))).map D.data := by
  have e : n * 3 + 3 = (n + 1) * 3 := by omega
  rw [e, ← List.map_take, ← List.map_drop, ← flat_take (locks_cells l) n (by rw [locks_length]; omega), ← flat_drop (locks_cells l) (n + 1) (by rw [locks_length]; omega), locks_take, locks_drop, List.set_eq_take_append_cons_drop, if_pos h, ← locks_append, List.map_append]
  rfl
def failedAt (b : Book) (o : Op) (k : Int) : Book × Int :=
  if o.kind = 5 then (if k < 0 then (b, 5) else ({ b with locks := b.locks.take k.toNat ++ b.locks.drop (k.toNat + 1) }, 0))
  else if k < 0 then (if (b.locks.length : Int) = 8 then (b, 4) else ({ b with locks := b.locks ++ [⟨o.user, 1, o.at_⟩] }, 0))
  else if (b.locks.getD k.toNat default).at_ > o.at_ then (b, 7)
  else ({ b with locks := b.locks.set k.toNat ⟨o.user, min 255 ((b.locks.getD k.toNat default).n + 1), o.at_⟩ }, 0)
def failedOp (b : Book) (o : Op) : Book × Int := failedAt b o (failed b o.user)
set_option maxHeartbeats 4000000 in
set_option maxRecDepth 100000 in
theorem failedOp_pc (Γ : Nat → Option (List Data)) (b : Book) (o : Op) (hb : Fits b) (hl : b.locks.length ≤ 1000000) (hn0 : ∀ l ∈ b.locks, -1000000 ≤ l.n ∧ l.n ≤ 1000000) : PC Try.prog Γ 53 [book b, op o] (out (failedOp b o)) := by
  refine pc_by mixed Try.func53 rfl (fun args w => Try.call53 args w) ?_
  have hk := failed_pc Γ b hb o.user
  have hrg := first_range (fun l : Lock => decide (l.user = o.user)) b.locks 0
  obtain ⟨bo, bi, bl, -, -⟩ := hb
  have hr0 : failedOp b o = failedAt b o (failed b o.user) := rfl
  rw [hr0]; clear hr0
  change failed b o.user = -1 ∨ _ ≤ failed b o.user ∧ failed b o.user < _ at hrg
  generalize failed b o.user = k at *
  simp -implicitDefEqProofs (disch := omega) [go_sem, book, op]
  refine .inl (call_data hk (by simp [go_sem, book]) ?_)
  by_cases g0 : o.kind = 5
  · by_cases g1 : k < 0
    · have hr : failedAt b o k = (b, 5) := by unfold failedAt; rw [if_pos g0, if_pos g1]
      simp -implicitDefEqProofs (disch := omega) [go_sem, g0, hr, out, book, Try.results53]
    obtain ⟨n, rfl⟩ : ∃ n : Nat, k = n := ⟨k.toNat, by omega⟩
    have hn : n < b.locks.length := by omega
    have hr : failedAt b o n = ({ b with locks := b.locks.take n ++ b.locks.drop (n + 1) }, 0) := by unfold failedAt; rw [if_pos g0, if_neg g1, Int.toNat_natCast]
    simp -implicitDefEqProofs (disch := omega) [go_sem, g0]
    refine side (by kernel_rfl) ?_
    simp -implicitDefEqProofs (disch := omega) [go_sem, hr, out, book, Try.results53]
    refine ⟨_, ⟨_, rfl, frz_aggL (frzL_c ((frz_data _ _ _ _).2 rfl) (frzL_c ((frz_data _ _ _ _).2 rfl) (frzL_c ((frz_data _ _ _ _).2 rfl) (frzL_c (fz_locks (rw := true) (l := b.locks.take n ++ b.locks.drop (n + 1)) (by simp [go_sem, ← locks_append]) (.inl rfl) (by simp; omega)) frzL_n))))⟩, ?_⟩
    rfl
  by_cases g1 : k < 0
  · by_cases g2 : (b.locks.length : Int) = 8
    · have hr : failedAt b o k = (b, 4) := by unfold failedAt; rw [if_neg g0, if_pos g1, if_pos g2]
      simp -implicitDefEqProofs (disch := omega) [go_sem, g0, g2, hr, out, book, Try.results53]
    have hr : failedAt b o k = ({ b with locks := b.locks ++ [⟨o.user, 1, o.at_⟩] }, 0) := by unfold failedAt; rw [if_neg g0, if_pos g1, if_neg g2]
    simp -implicitDefEqProofs (disch := omega) [go_sem, g0, g2, hr, out, book, Try.results53]
    refine ⟨_, ⟨_, rfl, frz_aggL (frzL_c ((frz_data _ _ _ _).2 rfl) (frzL_c ((frz_data _ _ _ _).2 rfl) (frzL_c ((frz_data _ _ _ _).2 rfl) (frzL_c (fz_locks (rw := true) (l := b.locks ++ [⟨o.user, 1, o.at_⟩]) (by simp [go_sem, ← locks_append, flat_lock1]) (.inl rfl) (by simp)) frzL_n))))⟩, ?_⟩
    rfl
  obtain ⟨n, rfl⟩ : ∃ n : Nat, k = n := ⟨k.toNat, by omega⟩
  have hn : n < b.locks.length := by omega
  have hgd : b.locks.getD ((n : Int)).toNat default = b.locks[n] := by rw [Int.toNat_natCast, List.getD_eq_getElem?_getD, List.getElem?_eq_getElem hn]; rfl
  have hnn := hn0 _ (List.getElem_mem hn)
  by_cases g3 : b.locks[n].at_ > o.at_
  · have hr : failedAt b o n = (b, 7) := by unfold failedAt; rw [if_neg g0, if_neg g1, hgd, if_pos g3]
    simp -implicitDefEqProofs (disch := omega) [go_sem, g0]
    refine side (by kernel_rfl) ?_
    simp -implicitDefEqProofs (disch := omega) [go_sem, hr, out, book, Try.results53]
  have hr : failedAt b o n = ({ b with locks := b.locks.set n ⟨o.user, min 255 (b.locks[n].n + 1), o.at_⟩ }, 0) := by unfold failedAt; rw [if_neg g0, if_neg g1, hgd, if_neg g3, Int.toNat_natCast]
  simp -implicitDefEqProofs (disch := omega) [go_sem, g0]
  refine side (by kernel_rfl) ?_
  simp -implicitDefEqProofs (disch := omega) [go_sem]
  refine side (by kernel_rfl) ?_
  simp -implicitDefEqProofs (disch := omega) [go_sem, hr, out, book, Try.results53]
  refine ⟨_, ⟨_, rfl, frz_aggL (frzL_c ((frz_data _ _ _ _).2 rfl) (frzL_c ((frz_data _ _ _ _).2 rfl) (frzL_c ((frz_data _ _ _ _).2 rfl) (frzL_c (fz_locks (rw := true) (l := b.locks.set n ⟨o.user, min 255 (b.locks[n].n + 1), o.at_⟩) (by have := lock_set b.locks n hn ⟨o.user, min 255 (b.locks[n].n + 1), o.at_⟩; simp [go_sem, ← this]; omega) (.inl rfl) (by simp)) frzL_n))))⟩, ?_⟩
  rfl
def kept (b : Book) (l : List Item) : List Item := l.filter fun x => decide (0 ≤ ofId b x.id)
theorem kept_succ (b : Book) (i : Nat) (h : i < b.items.length) : kept b (b.items.take (i + 1)) = kept b (b.items.take i) ++ (if 0 ≤ ofId b b.items[i].id then [b.items[i]] else []) := by
  rw [List.take_succ_eq_append_getElem h]
  unfold kept
  rw [List.filter_append]
  by_cases g : 0 ≤ ofId b b.items[i].id <;> simp [g]
open Classical in
noncomputable def applyOp (b : Book) (o : Op) : Book × Int :=
  if ¬ MayP o then (b, 1)
  else if o.kind = 1 then openedOp b o
  else if o.kind = 2 ∨ o.kind = 3 then countedOp b o
  else if o.kind = 4 ∨ o.kind = 5 then failedOp b o
  else ({ b with items := kept b b.items }, 0)
set_option maxHeartbeats 4000000 in
set_option maxRecDepth 100000 in
theorem apply_pc (Γ : Nat → Option (List Data)) (b : Book) (o : Op) (hb : Fits b) (h0 : 0 ≤ b.next ∧ b.next ≤ 1000000000) (hi : b.items.length ≤ 1000000) (ho : b.opn.length ≤ 1000000) (hl : b.locks.length ≤ 1000000) (hn0 : ∀ l ∈ b.locks, -1000000 ≤ l.n ∧ l.n ≤ 1000000) (hu : o.user.size ≤ 9223372036854775807) : PC Try.prog Γ 19 [book b, op o] (out (applyOp b o)) := by
  refine pc_by mixed Try.func19 rfl (fun args w => Try.call19 args w) ?_
  have c0 := may_pc Γ o hu
  have c1 := opened_pc Γ b o hb h0
  have c2 := counted_pc Γ b o hb hi ho
  have c3 := failedOp_pc Γ b o hb hl hn0
  have c4 := fun id => of_pc Γ b hb id
  simp -implicitDefEqProofs (disch := omega) [go_sem, book, op]
  refine .inl (call_data c0 (by simp [go_sem, op]) ?_)
  by_cases g0 : MayP o
  rotate_left
  · have hr : applyOp b o = (b, 1) := by unfold applyOp; rw [if_pos g0]
    simp -implicitDefEqProofs (disch := omega) [go_sem, g0, hr, out, book, Try.results19]
  by_cases g1 : o.kind = 1
  · have hr : applyOp b o = openedOp b o := by unfold applyOp; rw [if_neg (by simpa using g0), if_pos g1]
    simp -implicitDefEqProofs (disch := omega) [go_sem, g0, g1]
    refine .inl (call_data c1 (by simp [go_sem, book, op, g1]) ?_)
    simp -implicitDefEqProofs (disch := omega) [go_sem, hr, out, book, Try.results19]
  by_cases g2 : o.kind = 2
  · have hr : applyOp b o = countedOp b o := by unfold applyOp; rw [if_neg (by simpa using g0), if_neg g1, if_pos (.inl g2)]
    simp -implicitDefEqProofs (disch := omega) [go_sem, g0, g2]
    refine .inl (call_data c2 (by simp [go_sem, book, op, g2]) ?_)
    simp -implicitDefEqProofs (disch := omega) [go_sem, hr, out, book, Try.results19]
  by_cases g3 : o.kind = 3
  · have hr : applyOp b o = countedOp b o := by unfold applyOp; rw [if_neg (by simpa using g0), if_neg g1, if_pos (.inr g3)]
    simp -implicitDefEqProofs (disch := omega) [go_sem, g0, g3]
    refine .inl (call_data c2 (by simp [go_sem, book, op, g3]) ?_)
    simp -implicitDefEqProofs (disch := omega) [go_sem, hr, out, book, Try.results19]
  by_cases g4 : o.kind = 4
  · have hr : applyOp b o = failedOp b o := by unfold applyOp; rw [if_neg (by simpa using g0), if_neg g1, if_neg (by omega), if_pos (.inl g4)]
    simp -implicitDefEqProofs (disch := omega) [go_sem, g0, g4]
    refine .inl (call_data c3 (by simp [go_sem, book, op, g4]) ?_)
    simp -implicitDefEqProofs (disch := omega) [go_sem, hr, out, book, Try.results19]
  by_cases g5 : o.kind = 5
  · have hr : applyOp b o = failedOp b o := by unfold applyOp; rw [if_neg (by simpa using g0), if_neg g1, if_neg (by omega), if_pos (.inr g5)]
    simp -implicitDefEqProofs (disch := omega) [go_sem, g0, g5]
    refine .inl (call_data c3 (by simp [go_sem, book, op, g5]) ?_)
    simp -implicitDefEqProofs (disch := omega) [go_sem, hr, out, book, Try.results19]
  have hr : applyOp b o = ({ b with items := kept b b.items }, 0) := by unfold applyOp; rw [if_neg (by simpa using g0), if_neg g1, if_neg (by omega), if_neg (by omega)]
  obtain ⟨bo, bi, bl, -, -⟩ := hb
  simp -implicitDefEqProofs (disch := omega) [go_sem, g0, g1, g2, g3, g4, g5]
  refine loop_ren (σ := { i : Nat // i ≤ b.items.length }) (fun i => ⟨envL [(2, .ptr 0 0), (4, .ptr 2 0), (7, .ptr 3 0), (8, .data (.int .i64 i.1))], hpL [(0, .blk true [.data (.int .i64 b.next), .data (.sl 6 (sesss b.opn)), .data (.sl 5 (items b.items)), .data (.sl 3 (locks b.locks))]), (1, .blk true [.data (.int .i64 o.kind), .data (.int .i64 o.id), .data (.int .i64 o.link), .data (.int .u32 o.addr), .data (.str o.user), .data (.int .u64 o.inn), .data (.int .u64 o.out), .data (.int .i64 o.cause), .data (.int .i64 o.at_)]), (2, .blk true [.data (.int .i64 0), .emp 0, .emp 0, .emp 0]), (3, .blk true [.data (.int .i64 b.next), .data (.sl 6 (sesss b.opn)), .ref 4 0 (kept b (b.items.take i.1)).length 5, .data (.sl 3 (locks b.locks))]), (4, .blk true ((flat (items (kept b (b.items.take i.1)))).map .data))], 5, 0, 68⟩) (fun i => b.items.length - i.1) ⟨0, by omega⟩ [] (rhoL [(0, some 0), (1, some 1), (2, some 2), (3, some 22), (4, none)]) ?_ ?_
  · apply ren_lists <;> simp -implicitDefEqProofs [go_sem, kept, items, flat]
  rintro ⟨i, hi2⟩
  by_cases h : i < b.items.length
  · have hs := kept_succ b i h
    have hkl : (kept b (b.items.take i)).length ≤ i := by unfold kept; exact Nat.le_trans (List.length_filter_le _ _) (by simp; omega)
    simp -implicitDefEqProofs (disch := omega) [go_sem]
    refine .inl (call_data (c4 b.items[i].id) (by simp [go_sem, book]) ?_)
    by_cases g : 0 ≤ ofId b b.items[i].id
    · rw [if_pos g] at hs
      simp -implicitDefEqProofs (disch := omega) [go_sem, g]
      refine side (by kernel_rfl) ?_
      simp -implicitDefEqProofs (disch := omega) [go_sem, g]
      refine side (by kernel_rfl) ?_
      simp -implicitDefEqProofs (disch := omega) [go_sem]
      refine next_ren ⟨i + 1, by omega⟩ (by simp only; omega) [] (rhoL [(0, some 0), (1, some 1), (2, some 2), (3, some 3), (4, some 27)]) ?_
      apply ren_lists <;> simp -implicitDefEqProofs [go_sem, hs, ← items_append, flat_item1]
      exact renCells_plain rfl (by simp [plainD])
    · rw [if_neg g, List.append_nil] at hs
      simp -implicitDefEqProofs (disch := omega) [go_sem, g]
      refine side (by kernel_rfl) ?_
      simp -implicitDefEqProofs (disch := omega) [go_sem, g]
      refine next_ren ⟨i + 1, by omega⟩ (by simp only; omega) [] (rhoL [(0, some 0), (1, some 1), (2, some 2), (3, some 3), (4, some 4)]) ?_
      apply ren_lists <;> simp -implicitDefEqProofs [go_sem, hs]
  have hi3 : i = b.items.length := by omega
  subst hi3
  simp -implicitDefEqProofs (disch := omega) [go_sem, hr, out, book, Try.results19, List.take_length]
  refine ⟨_, ⟨_, rfl, frz_aggL (frzL_c ((frz_data _ _ _ _).2 rfl) (frzL_c ((frz_data _ _ _ _).2 rfl) (frzL_c (fz_items (rw := true) (l := kept b b.items) (by simp [go_sem]) (.inl rfl) (by simp)) (frzL_c ((frz_data _ _ _ _).2 rfl) frzL_n))))⟩, ?_⟩
  rfl
def ends (l : List Sess) : List Item := l.map fun s => ⟨3, s.id, s.inn, s.out, 9⟩
def closeOp (b : Book) : Book := { b with opn := [], items := b.items ++ ends b.opn }
theorem ends_succ (l : List Sess) (i : Nat) (h : i < l.length) : ends (l.take (i + 1)) = ends (l.take i) ++ [⟨3, l[i].id, l[i].inn, l[i].out, 9⟩] := by
  rw [List.take_succ_eq_append_getElem h]; unfold ends; rw [List.map_append]; rfl
set_option maxHeartbeats 4000000 in
set_option maxRecDepth 100000 in
theorem close_pc (Γ : Nat → Option (List Data)) (b : Book) (hb : Fits b) (hi : b.items.length + b.opn.length ≤ 1000000) : PC Try.prog Γ 22 [book b] (book (closeOp b)) := by
  refine pc_by mixed Try.func22 rfl (fun args w => Try.call22 args w) ?_
  simp -implicitDefEqProofs (disch := omega) [go_sem, book]
  refine loop_ren (σ := { i : Nat // i ≤ b.opn.length }) (fun i => ⟨envL [(1, .ptr 0 0), (2, .ptr 1 0), (3, .ptr 2 0), (4, .data (.int .i64 i.1))], hpL [(0, .blk true [.data (.int .i64 b.next), .data (.sl 6 (sesss b.opn)), .data (.sl 5 (items b.items)), .data (.sl 3 (locks b.locks))]), (1, .blk true [.data (.int .i64 0), .emp 0, .emp 0, .emp 0]), (2, .blk true [.data (.int .i64 b.next), .data (.sl 6 (sesss b.opn)), .data (.sl 5 (items (b.items ++ ends (b.opn.take i.1)))), .data (.sl 3 (locks b.locks))])], 3, 0, 30⟩) (fun i => b.opn.length - i.1) ⟨0, by omega⟩ [] (rhoL [(0, some 0), (1, some 1), (2, some 3)]) ?_ ?_
  · apply ren_lists <;> simp -implicitDefEqProofs [go_sem, ends]
  rintro ⟨i, hi2⟩
  by_cases h : i < b.opn.length
  · have hs := ends_succ b.opn i h
    have hw := with_pc Γ { b with items := b.items ++ ends (b.opn.take i) } (by simp [ends]; omega) ⟨3, b.opn[i].id, b.opn[i].inn, b.opn[i].out, 9⟩
    simp -implicitDefEqProofs (disch := omega) [go_sem, sess_cut b.opn i h]
    refine .inl (call_data hw (by simp [go_sem, book, item]) ?_)
    simp -implicitDefEqProofs (disch := omega) [go_sem, book, withLine]
    refine next_ren ⟨i + 1, by omega⟩ (by simp only; omega) [] (rhoL [(0, some 0), (1, some 1), (2, some 2)]) ?_
    apply ren_lists <;> simp -implicitDefEqProofs [go_sem, hs]
  have hi3 : i = b.opn.length := by omega
  subst hi3
  simp -implicitDefEqProofs (disch := omega) [go_sem, closeOp, book, Try.results22, List.take_length]
  refine ⟨_, ⟨_, rfl, frz_aggL (frzL_c ((frz_data _ _ _ _).2 rfl) (frzL_c (.emp _ 6) (frzL_c ((frz_data _ _ _ _).2 rfl) (frzL_c ((frz_data _ _ _ _).2 rfl) frzL_n))))⟩, ?_⟩
  rfl
end Bk
end Go.Proofs.Ytedcnbkhdkchoaa
