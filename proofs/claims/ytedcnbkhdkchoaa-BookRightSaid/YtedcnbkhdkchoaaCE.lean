/- Books: the program's Right, of a right book; the document's example; books as they come in; what closes all; BookDoes. -/
import Derived.Test.YtedcnbkhdkchoaaBZ
import Derived.Test.YtedcnbkhdkchoaaBV
import Derived.Test.YtedcnbkhdkchoaaBE
namespace Go.Proofs.Ytedcnbkhdkchoaa
open Go.RowKit
set_option linter.unusedVariables false
set_option linter.unusedSimpArgs false
set_option maxRecDepth 100000
namespace Bk
variable (Γ : Nat → Option (List Data))
set_option maxHeartbeats 8000000 in
set_option maxRecDepth 100000 in
theorem right2_pc (b : Book) (hr : RightP b) (ht : ∀ x ∈ b.items, x.Ty) : PC Try.prog Γ 23 [book b] (.bool true) := by
  refine pc_by mixed Try.func23 rfl (fun args w => Try.call23 args w) ?_
  have n0 := hr.n0
  have n1 := hr.n1
  have hlen := hr.len
  have hll := hr.ll
  have c1 := isFrom_pc Γ b.next 0 1000000000
  rw [decide_eq_true ⟨n0, n1⟩] at c1
  have c2 := rightOpen_pc Γ b (by omega) n0 n1 (q := true) ⟨fun _ => hr.opens, fun _ => rfl⟩
  have c3 := rightLedger_pc Γ b hr ht
  have c4 := rightLocks_pc Γ b (by omega) (q := true) ⟨fun _ => hr.locks, fun _ => rfl⟩
  simp -implicitDefEqProofs (disch := omega) [go_sem, book]
  refine .inl (call_data c1 (by simp [go_sem]) ?_)
  simp -implicitDefEqProofs (disch := omega) [go_sem]
  refine .inl (call_data c2 (by simp [go_sem]) ?_)
  simp -implicitDefEqProofs (disch := omega) [go_sem]
  refine .inl (call_data c3 (by simp [go_sem, book]) ?_)
  simp -implicitDefEqProofs (disch := omega) [go_sem]
  refine .inl (call_data c4 (by simp [go_sem]) ?_)
  simp -implicitDefEqProofs (disch := omega) [go_sem, Try.f23]
def uU : ByteArray := ⟨#[117]⟩
def s1 : Sess := ⟨0, 3, 167772161, uU, 0, 0⟩
def b0 : Book := ⟨0, [], [], []⟩
def o0 : Op := ⟨1, 0, 3, 167772161, uU, 0, 0, 0, 0⟩
def b1 : Book := ⟨1, [s1], [⟨1, 0, 0, 0, 0⟩], []⟩
def b2 : Book := ⟨1, [], [⟨1, 0, 0, 0, 0⟩, ⟨3, 0, 0, 0, 9⟩], []⟩
theorem uU_size : uU.size = 1 := rfl
theorem apply_b0 : applyOp b0 o0 = (b1, 0) := by
  have hb : ¬ Busy b0 o0 := fun ⟨i, h, _⟩ => absurd h (by simp [b0])
  have : openedOp b0 o0 = (b1, 0) := by
    unfold openedOp
    rw [if_neg hb]
    simp [o0, b0, poolOk, b1, s1]
  rw [← this]
  simp [applyOp, MayP, o0, uU_size]
theorem apply_b1 : applyOp b1 (clOp s1) = (b2, 0) := by
  simp [applyOp, MayP, clOp, s1, b1, uU_size, countedOp, b2, ofId, first, countedAt]
theorem right_b1 : RightP b1 := by
  refine ⟨by decide, by decide, by decide, by decide, ?_, ?_, ?_, ?_⟩
  · intro i h
    obtain rfl : i = 0 := by simp [b1] at h; omega
    exact ⟨⟨by simp [b1, s1], by simp [b1, s1], fun h => absurd h (by decide), by simp [b1, s1], by simp [b1, s1], by simp [b1, s1, nameOk, uU_size], by simp [b1, s1, poolOk]⟩, fun k hk => absurd hk (by omega)⟩
  · intro i h
    obtain rfl : i = 0 := by simp [b1] at h; omega
    exact ⟨by simp [LineOk, LineAt, last, b1], by simp [b1, last, ofId, first, s1]⟩
  · intro i h
    obtain rfl : i = 0 := by simp [b1] at h; omega
    exact ⟨by simp [b1, last, s1], by simp [b1, last, s1], by simp [b1, last, s1]⟩
  · intro i h
    exact absurd h (by simp [b1])
theorem close_b1 : closeAt b1 b1.opn.length = b2 := by
  have : closeAt b1 1 = (applyOp b1 (clOp s1)).1 := rfl
  rw [show b1.opn.length = 1 from rfl, this, apply_b1]
theorem free_b1 : freeOf b1.opn 6 0 = (167772162, true) := by
  simp [freeOf, held, b1, s1, first]
set_option maxHeartbeats 8000000 in
set_option maxRecDepth 100000 in
theorem shown_pc : PC Try.prog Γ 16 [] (.bool true) := by
  refine pc_by mixed Try.func16 rfl (fun args w => Try.call16 args w) ?_
  have c1 := apply2_pc Γ b0 o0 ⟨⟨by decide, by decide, by decide⟩, by decide, by decide, by intro l hl; cases hl⟩
  rw [apply_b0] at c1
  have c2 := close2_pc Γ b1 ⟨by decide, by decide, by decide⟩ (fun i h => by
    obtain rfl : i = 0 := by simp [b1] at h; omega
    exact ⟨⟨by decide, by decide, by decide⟩, by decide, by decide, by intro l hl; cases hl⟩)
  rw [close_b1] at c2
  have fb : Fits b1 := ⟨by decide, by decide, by decide, by intro s hs; simp [b1] at hs; subst hs; simp [s1, uU_size], by intro l hl; cases hl⟩
  have tb : b1.Ty := by
    constructor
    · intro s hs
      simp [b1] at hs
      subst hs
      constructor <;> simp [s1, R64, U64, uU_size, maxLen]
    · intro x hx
      simp [b1] at hx
      subst hx
      constructor <;> simp [R64, U64]
    · intro l hl
      cases hl
  have c3 := free_pc Γ b1 fb
  rw [free_b1] at c3
  have c4 := right2_pc Γ b1 right_b1 tb.i
  have c5 := same2_pc Γ b1 b1 fb fb tb tb
  rw [decide_eq_true rfl] at c5
  have c6 := may2_pc Γ ⟨0, 0, 0, 0, ByteArray.empty, 0, 0, 0, 0⟩
  rw [decide_eq_false (by simp [MayP])] at c6
  unfold out at c1
  simp -implicitDefEqProofs (disch := omega) [go_sem]
  refine .inl (call_frz [] [] (by simp) c1 (fun H' _ => frzL_c (frz_aggL (frzL_c ((frz_data _ _ _ _).2 rfl) (frzL_c (.emp 0 6) (frzL_c (.emp 0 5) (frzL_c (.emp 0 3) frzL_n))))) (frzL_c ((frz_data _ _ _ _).2 rfl) frzL_n)) ?_)
  simp -implicitDefEqProofs (disch := omega) [go_sem, book]
  refine .inl (call_data c2 (by simp [go_sem, book]) ?_)
  simp -implicitDefEqProofs (disch := omega) [go_sem, book]
  refine .inl (call_data c3 (by simp [go_sem, book]) ?_)
  have e1 : b1.opn = [s1] := rfl
  have e2 : b1.items = [⟨1, 0, 0, 0, 0⟩] := rfl
  have e3 : b2.opn = [] := rfl
  have e4 : b2.items = [⟨1, 0, 0, 0, 0⟩, ⟨3, 0, 0, 0, 9⟩] := rfl
  have e5 : s1.id = 0 := rfl
  simp -implicitDefEqProofs (disch := omega) [go_sem, e1, e2, e3, e4, e5]
  refine .inl (call_data c4 (by simp [go_sem, book, e1, e2]) ?_)
  simp -implicitDefEqProofs (disch := omega) [go_sem, e1, e2, e3, e4]
  refine .inl (call_data c5 (by simp [go_sem, book, e1, e2]) ?_)
  simp -implicitDefEqProofs (disch := omega) [go_sem]
  refine .inl (call_data c6 (by simp [go_sem, op]) ?_)
  simp -implicitDefEqProofs (disch := omega) [go_sem, Try.f16]
theorem lift_rows {α : Type} {f : α → Data} {p : α → Prop} {l : List Data} (h : ∀ x ∈ l, ∃ a, p a ∧ x = f a) : ∃ bs : List α, l = bs.map f ∧ ∀ a ∈ bs, p a := by
  induction l with
  | nil => exact ⟨[], rfl, fun a ha => by cases ha⟩
  | cons x t ih =>
    obtain ⟨a, pa, rfl⟩ := h _ List.mem_cons_self
    obtain ⟨bs, rfl, hp⟩ := ih fun y hy => h y (List.mem_cons_of_mem _ hy)
    exact ⟨a :: bs, rfl, fun b hb => by
      rcases List.mem_cons.1 hb with rfl | hb
      · exact pa
      · exact hp b hb⟩
theorem ok_u64 {n : Nat} {t : TypeId} {ds : List Data} (hu : Try.prog.underlying t = some (.int .u64)) (h : okD Try.prog (n + 1) t ds) : ∃ i : Int, U64 i ∧ ds = [.int .u64 i] := by
  obtain ⟨i, h1, h2, rfl⟩ := ok_int hu h
  have e1 : IntKind.u64.min = 0 := by decide
  have e2 : IntKind.u64.max = 18446744073709551615 := by decide
  exact ⟨i, ⟨by omega, by omega⟩, rfl⟩
theorem ok_u32 {n : Nat} {t : TypeId} {ds : List Data} (hu : Try.prog.underlying t = some (.int .u32)) (h : okD Try.prog (n + 1) t ds) : ∃ i : Int, (0 ≤ i ∧ i ≤ 4294967295) ∧ ds = [.int .u32 i] := by
  obtain ⟨i, h1, h2, rfl⟩ := ok_int hu h
  have e1 : IntKind.u32.min = 0 := by decide
  have e2 : IntKind.u32.max = 4294967295 := by decide
  exact ⟨i, ⟨by omega, by omega⟩, rfl⟩
theorem ok_text {n : Nat} {t : TypeId} {ds : List Data} (hu : Try.prog.underlying t = some .string) (h : okD Try.prog (n + 1) t ds) : ∃ s : ByteArray, s.size ≤ 140737488351232 ∧ ds = [.str s] := by
  unfold okD at h
  simp only [hu] at h
  obtain ⟨s, rfl, hs⟩ := h
  exact ⟨s, hs, rfl⟩
theorem arg_sess {n : Nat} {x : Data} (a : argD Try.prog (n + 2) 48 x) : ∃ s : Sess, (s.Ty ∧ s.user.size ≤ 140737488351232) ∧ x = sess s := by
  obtain ⟨ds, rfl, h⟩ := arg_struct Try.underlying48 a
  obtain ⟨d1, r1, rfl, h1, h⟩ := okF_cons h
  obtain ⟨d2, r2, rfl, h2, h⟩ := okF_cons h
  obtain ⟨d3, r3, rfl, h3, h⟩ := okF_cons h
  obtain ⟨d4, r4, rfl, h4, h⟩ := okF_cons h
  obtain ⟨d5, r5, rfl, h5, h⟩ := okF_cons h
  obtain ⟨d6, r6, rfl, h6, h⟩ := okF_cons h
  obtain rfl := okF_nil h
  obtain ⟨i1, a1, b1, rfl⟩ := ok_i64 Try.underlying3 h1
  obtain ⟨i2, a2, b2, rfl⟩ := ok_i64 Try.underlying3 h2
  obtain ⟨i3, a3, rfl⟩ := ok_u32 Try.underlying27 h3
  obtain ⟨u, hu, rfl⟩ := ok_text Try.underlying9 h4
  obtain ⟨i5, a5, rfl⟩ := ok_u64 Try.underlying28 h5
  obtain ⟨i6, a6, rfl⟩ := ok_u64 Try.underlying28 h6
  exact ⟨⟨i1, i2, i3, u, i5, i6⟩, ⟨⟨⟨a1, b1⟩, ⟨a2, b2⟩, a3, Nat.le_trans hu (by decide), a5, a6⟩, hu⟩, rfl⟩
theorem arg_item {n : Nat} {x : Data} (a : argD Try.prog (n + 2) 46 x) : ∃ s : Item, s.Ty ∧ x = item s := by
  obtain ⟨ds, rfl, h⟩ := arg_struct Try.underlying46 a
  obtain ⟨d1, r1, rfl, h1, h⟩ := okF_cons h
  obtain ⟨d2, r2, rfl, h2, h⟩ := okF_cons h
  obtain ⟨d3, r3, rfl, h3, h⟩ := okF_cons h
  obtain ⟨d4, r4, rfl, h4, h⟩ := okF_cons h
  obtain ⟨d5, r5, rfl, h5, h⟩ := okF_cons h
  obtain rfl := okF_nil h
  obtain ⟨i1, a1, b1, rfl⟩ := ok_i64 Try.underlying3 h1
  obtain ⟨i2, a2, b2, rfl⟩ := ok_i64 Try.underlying3 h2
  obtain ⟨i3, a3, rfl⟩ := ok_u64 Try.underlying28 h3
  obtain ⟨i4, a4, rfl⟩ := ok_u64 Try.underlying28 h4
  obtain ⟨i5, a5, b5, rfl⟩ := ok_i64 Try.underlying3 h5
  exact ⟨⟨i1, i2, i3, i4, i5⟩, ⟨⟨a1, b1⟩, ⟨a2, b2⟩, a3, a4, ⟨a5, b5⟩⟩, rfl⟩
theorem arg_lock {n : Nat} {x : Data} (a : argD Try.prog (n + 2) 51 x) : ∃ s : Lock, (s.Ty ∧ s.user.size ≤ 140737488351232) ∧ x = lock s := by
  obtain ⟨ds, rfl, h⟩ := arg_struct Try.underlying51 a
  obtain ⟨d1, r1, rfl, h1, h⟩ := okF_cons h
  obtain ⟨d2, r2, rfl, h2, h⟩ := okF_cons h
  obtain ⟨d3, r3, rfl, h3, h⟩ := okF_cons h
  obtain rfl := okF_nil h
  obtain ⟨u, hu, rfl⟩ := ok_text Try.underlying9 h1
  obtain ⟨i2, a2, b2, rfl⟩ := ok_i64 Try.underlying3 h2
  obtain ⟨i3, a3, b3, rfl⟩ := ok_i64 Try.underlying3 h3
  exact ⟨⟨u, i2, i3⟩, ⟨⟨Nat.le_trans hu (by decide), ⟨a2, b2⟩, ⟨a3, b3⟩⟩, hu⟩, rfl⟩
theorem arg_book {n : Nat} {x : Data} (a : argD Try.prog (n + 4) 26 x) : ∃ b : Book, Fits b ∧ b.Ty ∧ x = book b := by
  obtain ⟨ds, rfl, h⟩ := arg_struct Try.underlying26 a
  obtain ⟨d1, r1, rfl, h1, h⟩ := okF_cons h
  obtain ⟨d2, r2, rfl, h2, h⟩ := okF_cons h
  obtain ⟨d3, r3, rfl, h3, h⟩ := okF_cons h
  obtain ⟨d4, r4, rfl, h4, h⟩ := okF_cons h
  obtain rfl := okF_nil h
  obtain ⟨i1, a1, b1, rfl⟩ := ok_i64 Try.underlying3 h1
  obtain ⟨l2, rfl, k2, e2⟩ := ok_slice Try.underlying22 h2
  obtain ⟨l3, rfl, k3, e3⟩ := ok_slice Try.underlying23 h3
  obtain ⟨l4, rfl, k4, e4⟩ := ok_slice Try.underlying24 h4
  obtain ⟨l2, rfl, p2⟩ := lift_rows fun x hx => arg_sess (e2 x hx)
  obtain ⟨l3, rfl, p3⟩ := lift_rows fun x hx => arg_item (e3 x hx)
  obtain ⟨l4, rfl, p4⟩ := lift_rows fun x hx => arg_lock (e4 x hx)
  refine ⟨⟨i1, l2, l3, l4⟩, ⟨by simpa using k2, by simpa using k3, by simpa using k4, fun s hs => (p2 s hs).2, fun s hs => (p4 s hs).2⟩, ⟨fun s hs => (p2 s hs).1, p3, fun s hs => (p4 s hs).1⟩, ?_⟩
  rw [show Try.prog.cellsOf 48 = 6 by kernel_rfl, show Try.prog.cellsOf 46 = 5 by kernel_rfl, show Try.prog.cellsOf 51 = 3 by kernel_rfl]
  rfl
structure Op.Ty (o : Op) : Prop where
  kind : R64 o.kind
  id : R64 o.id
  link : R64 o.link
  addr : 0 ≤ o.addr ∧ o.addr ≤ 4294967295
  user : o.user.size ≤ 140737488351232
  inn : U64 o.inn
  out : U64 o.out
  cause : R64 o.cause
  at_ : R64 o.at_
theorem arg_op {n : Nat} {x : Data} (a : argD Try.prog (n + 2) 30 x) : ∃ o : Op, o.Ty ∧ x = op o := by
  obtain ⟨ds, rfl, h⟩ := arg_struct Try.underlying30 a
  obtain ⟨d1, r1, rfl, h1, h⟩ := okF_cons h
  obtain ⟨d2, r2, rfl, h2, h⟩ := okF_cons h
  obtain ⟨d3, r3, rfl, h3, h⟩ := okF_cons h
  obtain ⟨d4, r4, rfl, h4, h⟩ := okF_cons h
  obtain ⟨d5, r5, rfl, h5, h⟩ := okF_cons h
  obtain ⟨d6, r6, rfl, h6, h⟩ := okF_cons h
  obtain ⟨d7, r7, rfl, h7, h⟩ := okF_cons h
  obtain ⟨d8, r8, rfl, h8, h⟩ := okF_cons h
  obtain ⟨d9, r9, rfl, h9, h⟩ := okF_cons h
  obtain rfl := okF_nil h
  obtain ⟨i1, a1, b1, rfl⟩ := ok_i64 Try.underlying3 h1
  obtain ⟨i2, a2, b2, rfl⟩ := ok_i64 Try.underlying3 h2
  obtain ⟨i3, a3, b3, rfl⟩ := ok_i64 Try.underlying3 h3
  obtain ⟨i4, a4, rfl⟩ := ok_u32 Try.underlying27 h4
  obtain ⟨u, hu, rfl⟩ := ok_text Try.underlying9 h5
  obtain ⟨i6, a6, rfl⟩ := ok_u64 Try.underlying28 h6
  obtain ⟨i7, a7, rfl⟩ := ok_u64 Try.underlying28 h7
  obtain ⟨i8, a8, b8, rfl⟩ := ok_i64 Try.underlying3 h8
  obtain ⟨i9, a9, b9, rfl⟩ := ok_i64 Try.underlying3 h9
  exact ⟨⟨i1, i2, i3, i4, u, i6, i7, i8, i9⟩, ⟨⟨a1, b1⟩, ⟨a2, b2⟩, ⟨a3, b3⟩, a4, hu, a6, a7, ⟨a8, b8⟩, ⟨a9, b9⟩⟩, rfl⟩
/-- So many are closed. -/
def closedTo (b : Book) (i : Nat) : Book := { b with opn := b.opn.drop i, items := b.items ++ ends (b.opn.take i) }
theorem closeAt_eq {b : Book} (hr : RightP b) : ∀ i, i ≤ b.opn.length → closeAt b i = closedTo b i
  | 0, _ => by simp [closeAt, closedTo, ends]
  | i + 1, h => by
    have hi : i < b.opn.length := by omega
    have hgd : b.opn.getD i default = b.opn[i] := by rw [List.getD_eq_getElem?_getD, List.getElem?_eq_getElem hi]; rfl
    obtain ⟨⟨q1, q2, _, _, _, qu, _⟩, _⟩ := hr.opens i hi
    have hn := hr.n1
    unfold nameOk at qu
    have hmay : MayP (clOp b.opn[i]) := by unfold MayP clOp; simp only; omega
    have hd : b.opn.drop i = b.opn[i] :: b.opn.drop (i + 1) := List.drop_eq_getElem_cons hi
    have hid : ofId (closedTo b i) (clOp b.opn[i]).id = 0 := by
      unfold ofId closedTo clOp
      simp only [hd]
      unfold first
      simp
    have hk : (clOp b.opn[i]).kind = 3 := rfl
    unfold closeAt
    rw [closeAt_eq hr i (by omega), hgd]
    unfold applyOp
    rw [if_neg (by simpa using hmay), if_neg (by omega), if_pos (.inr hk)]
    unfold countedOp countedAt
    have e0 : (closedTo b i).opn.getD (0 : Int).toNat default = b.opn[i] := by
      show (b.opn.drop i).getD 0 default = b.opn[i]
      rw [hd]; rfl
    have e1 : ¬ (((closedTo b i).opn.getD (0 : Int).toNat default).inn > (clOp b.opn[i]).inn ∨ ((closedTo b i).opn.getD (0 : Int).toNat default).out > (clOp b.opn[i]).out) := by
      rw [e0]
      show ¬ (b.opn[i].inn > b.opn[i].inn ∨ b.opn[i].out > b.opn[i].out)
      omega
    rw [hid, if_neg (by omega), if_neg e1, if_pos hk]
    simp only [closedTo, hd, clOp, ends_succ _ _ hi]
    simp
theorem fine_close {b : Book} (hr : RightP b) (i : Nat) (h : i < b.opn.length) : Fine (closeAt b i) (clOp (b.opn.getD i default)) := by
  have hl := hr.len
  have hll := hr.ll
  have h0 := hr.n0
  have h1 := hr.n1
  rw [closeAt_eq hr i (by omega)]
  refine ⟨⟨?_, ?_, ?_⟩, ⟨h0, h1⟩, hll, ?_⟩
  · simp [closedTo]; omega
  · simp [closedTo, ends]; omega
  · simp [closedTo]; omega
  · intro l hlk
    obtain ⟨j, hj, rfl⟩ := List.getElem_of_mem (show l ∈ b.locks from hlk)
    have := hr.locks j hj
    have h1 := this.n0
    have h2 := this.n1
    omega
theorem close_eq {b : Book} (hr : RightP b) : closeAt b b.opn.length = closeOp b := by
  rw [closeAt_eq hr _ (Nat.le_refl _)]
  simp [closedTo, closeOp]
theorem fine_of {b : Book} (hr : RightP b) (o : Op) : Fine b o := by
  have hl := hr.len
  refine ⟨⟨by omega, by omega, by have := hr.ll; omega⟩, ⟨hr.n0, hr.n1⟩, hr.ll, fun l hlk => ?_⟩
  obtain ⟨j, hj, rfl⟩ := List.getElem_of_mem hlk
  have := hr.locks j hj
  have h1 := this.n0
  have h2 := this.n1
  omega
def SessW (s : Sess) : Prop := s.Ty ∧ s.user.size ≤ 140737488351232
def LockW (s : Lock) : Prop := s.Ty ∧ s.user.size ≤ 140737488351232
structure WellP (n : Nat) (b : Book) : Prop where
  o : b.opn.length ≤ n
  i : b.items.length ≤ n
  l : b.locks.length ≤ n
  os : ∀ s ∈ b.opn, SessW s
  is : ∀ x ∈ b.items, x.Ty
  ls : ∀ l ∈ b.locks, LockW l
theorem WellP.fits {n : Nat} {b : Book} (h : WellP n b) (hn : n ≤ 1000) : Fits b := ⟨by have := h.o; omega, by have := h.i; omega, by have := h.l; omega, fun s hs => (h.os s hs).2, fun s hs => (h.ls s hs).2⟩
theorem WellP.ty {n : Nat} {b : Book} (h : WellP n b) : b.Ty := ⟨fun s hs => (h.os s hs).1, h.is, fun s hs => (h.ls s hs).1⟩
theorem well_of {b : Book} (hf : Fits b) (ht : b.Ty) (hr : RightP b) : WellP 60 b := ⟨by have := hr.len; omega, by have := hr.len; omega, by have := hr.ll; omega, fun s hs => ⟨ht.o s hs, hf.ou s hs⟩, ht.i, fun s hs => ⟨ht.l s hs, hf.lu s hs⟩⟩
theorem WellP.up {n m : Nat} {b : Book} (h : WellP n b) (hn : n ≤ m) : WellP m b := ⟨by have := h.o; omega, by have := h.i; omega, by have := h.l; omega, h.os, h.is, h.ls⟩
theorem app_w {α : Type} {p : α → Prop} {l : List α} {a : α} (h : ∀ x ∈ l, p x) (ha : p a) : ∀ x ∈ l ++ [a], p x := fun x hx => by
  rcases List.mem_append.1 hx with hx | hx
  · exact h x hx
  · rw [List.mem_singleton.1 hx]; exact ha
theorem cut_w {α : Type} {p : α → Prop} {l : List α} {k : Nat} (h : ∀ x ∈ l, p x) : ∀ x ∈ l.take k ++ l.drop (k + 1), p x := fun x hx => by
  rcases List.mem_append.1 hx with hx | hx
  · exact h x (List.mem_of_mem_take hx)
  · exact h x (List.mem_of_mem_drop hx)
theorem set_w {α : Type} {p : α → Prop} {l : List α} {k : Nat} {a : α} (h : ∀ x ∈ l, p x) (ha : p a) : ∀ x ∈ l.set k a, p x := fun x hx => by
  rcases List.mem_or_eq_of_mem_set hx with hx | rfl
  · exact h x hx
  · exact ha
theorem well_apply {b : Book} {o : Op} (hw : WellP 60 b) (hn : 0 ≤ b.next ∧ b.next ≤ 1000000000) (hln : ∀ l ∈ b.locks, -1000000 ≤ l.n ∧ l.n ≤ 1000000) (ho : o.Ty) : WellP 61 (applyOp b o).1 := by
  have hu : o.user.size ≤ maxLen := Nat.le_trans ho.user (by decide)
  have hwu := hw.up (by omega : 60 ≤ 61)
  obtain ⟨q1, q2, q3, q4, q5, q6⟩ := hw
  unfold applyOp
  split
  · exact hwu
  split
  · unfold openedOp
    split
    · exact hwu
    split
    · exact hwu
    split
    · exact hwu
    exact ⟨by simp; omega, by simp; omega, by simp; omega, app_w q4 ⟨⟨by constructor <;> simp only <;> omega, ho.link, ho.addr, hu, by constructor <;> simp, by constructor <;> simp⟩, ho.user⟩, app_w q5 ⟨by constructor <;> simp, by constructor <;> simp only <;> omega, by constructor <;> simp, by constructor <;> simp, by constructor <;> simp⟩, q6⟩
  split
  · have hrg := first_range (fun s : Sess => decide (s.id = o.id)) b.opn 0
    unfold countedOp countedAt
    change ofId b o.id = -1 ∨ _ ≤ ofId b o.id ∧ ofId b o.id < _ at hrg
    split
    · exact hwu
    rename_i hk
    have hlt : (ofId b o.id).toNat < b.opn.length := by omega
    have hgd : b.opn.getD (ofId b o.id).toNat default = b.opn[(ofId b o.id).toNat] := by rw [List.getD_eq_getElem?_getD, List.getElem?_eq_getElem hlt]; rfl
    have hs := q4 _ (List.getElem_mem hlt)
    split
    · exact hwu
    split
    · exact ⟨by simp; omega, by simp; omega, by simp; omega, cut_w q4, app_w q5 ⟨by constructor <;> simp, ho.id, ho.inn, ho.out, ho.cause⟩, q6⟩
    split
    · exact hwu
    exact ⟨by simp; omega, by simp; omega, by simp; omega, set_w q4 (by rw [hgd]; exact ⟨⟨hs.1.id, hs.1.link, hs.1.addr, hs.1.user, ho.inn, ho.out⟩, hs.2⟩), app_w q5 ⟨by constructor <;> simp, ho.id, ho.inn, ho.out, by constructor <;> simp⟩, q6⟩
  split
  · have hrg := first_range (fun l : Lock => decide (l.user = o.user)) b.locks 0
    unfold failedOp failedAt
    change failed b o.user = -1 ∨ _ ≤ failed b o.user ∧ failed b o.user < _ at hrg
    split
    · split
      · exact hwu
      · exact ⟨by simp; omega, by simp; omega, by simp; omega, q4, q5, cut_w q6⟩
    split
    · split
      · exact hwu
      · exact ⟨by simp; omega, by simp; omega, by simp; omega, q4, q5, app_w q6 ⟨⟨hu, by constructor <;> simp, ho.at_⟩, ho.user⟩⟩
    rename_i hk
    have hlt : (failed b o.user).toNat < b.locks.length := by omega
    have hgd : b.locks.getD (failed b o.user).toNat default = b.locks[(failed b o.user).toNat] := by rw [List.getD_eq_getElem?_getD, List.getElem?_eq_getElem hlt]; rfl
    have hs := hln _ (List.getElem_mem hlt)
    split
    · exact hwu
    exact ⟨by simp; omega, by simp; omega, by simp; omega, q4, q5, set_w q6 ⟨⟨hu, by rw [hgd]; constructor <;> simp only <;> omega, ho.at_⟩, ho.user⟩⟩
  exact ⟨by simp; omega, by have := List.length_filter_le (fun x : Item => decide (0 ≤ ofId b x.id)) b.items; simp only [kept]; omega, by simp; omega, q4, fun x hx => q5 x (List.mem_filter.1 hx).1, q6⟩
theorem well_close {b : Book} (hw : WellP 60 b) : WellP 120 (closeOp b) := by
  obtain ⟨q1, q2, q3, q4, q5, q6⟩ := hw
  refine ⟨by simp [closeOp], by simp [closeOp, ends]; omega, by simp [closeOp]; omega, (fun s hs => by cases hs), fun x hx => ?_, q6⟩
  rcases List.mem_append.1 hx with hx | hx
  · exact q5 x hx
  · obtain ⟨s, hs, rfl⟩ := List.mem_map.1 hx
    have h := (q4 s hs).1
    exact ⟨by constructor <;> simp, h.id, h.inn, h.out, by constructor <;> simp⟩
set_option maxHeartbeats 8000000 in
set_option maxRecDepth 100000 in
theorem does_pc (b : Book) (o : Op) (hf : Fits b) (ht : b.Ty) (ho : o.Ty) : PC Try.prog Γ 3 [book b, op o] (.bool true) := by
  refine pc_by mixed Try.func3 rfl (fun args w => Try.call3 args w) ?_
  have hou := ho.user
  have cs := shown_pc Γ
  obtain ⟨vr, hvr⟩ : ∃ v : Bool, v = true ↔ RightP b := by classical exact ⟨decide (RightP b), by simp⟩
  have c0 := right_pc Γ b hf hvr
  simp -implicitDefEqProofs (disch := omega) [go_sem, book, op]
  refine .inl (call_data cs (by simp [go_sem]) ?_)
  simp -implicitDefEqProofs (disch := omega) [go_sem]
  refine .inl (call_data c0 (by simp [go_sem, book]) ?_)
  by_cases hr : RightP b
  rotate_left
  · have e : vr = false := by
      cases vr
      · rfl
      · exact absurd (hvr.1 rfl) hr
    simp -implicitDefEqProofs (disch := omega) [go_sem, e, Try.f3]
  have e : vr = true := hvr.2 hr
  by_cases g : o.user.size ≤ 50
  rotate_left
  · simp -implicitDefEqProofs (disch := omega) [go_sem, e, Try.f3]
  have hw := well_of hf ht hr
  have hfi := fine_of hr o
  have c1 := apply2_pc Γ b o hfi
  have c2 := apply_pc Γ b o hf hfi.n hfi.s.2.1 hfi.s.1 (by have := hfi.l; omega) hfi.ln (by omega)
  have hwa := well_apply hw hfi.n hfi.ln ho
  have c3 := same_pc Γ _ _ (hwa.fits (by omega)) (hwa.fits (by omega)) hwa.ty hwa.ty
  have c4 := close2_pc Γ b hfi.s (fun i h => fine_close hr i h)
  rw [close_eq hr] at c4
  have c5 := close_pc Γ b hf (by have := hr.len; omega)
  have hwc := well_close hw
  have c6 := same_pc Γ _ _ (hwc.fits (by omega)) (hwc.fits (by omega)) hwc.ty hwc.ty
  rw [decide_eq_true rfl] at c3 c6
  unfold out at c1 c2
  generalize (applyOp b o).1 = x at *
  generalize (applyOp b o).2 = er at *
  generalize closeOp b = z at *
  simp -implicitDefEqProofs (disch := omega) [go_sem, e]
  refine .inl (call_data c1 (by simp [go_sem, book, op]) ?_)
  simp -implicitDefEqProofs (disch := omega) [go_sem, book, op]
  refine .inl (call_data c2 (by simp [go_sem, book, op]) ?_)
  simp -implicitDefEqProofs (disch := omega) [go_sem, book]
  refine .inl (call_data c3 (by simp [go_sem, book]) ?_)
  simp -implicitDefEqProofs (disch := omega) [go_sem]
  refine .inl (call_data c4 (by simp [go_sem, book]) ?_)
  simp -implicitDefEqProofs (disch := omega) [go_sem]
  refine .inl (call_data c5 (by simp [go_sem, book]) ?_)
  simp -implicitDefEqProofs (disch := omega) [go_sem]
  refine .inl (call_data c6 (by simp [go_sem, book]) ?_)
  simp -implicitDefEqProofs (disch := omega) [go_sem]
  refine side (by kernel_rfl) ?_
  simp -implicitDefEqProofs (disch := omega) [go_sem, Try.f3]
end Bk
theorem law_BookDoes (Γ : Nat → Option (List Data)) {x0 x1 : Data} (a0 : argD Try.prog 8 26 x0) (a1 : argD Try.prog 8 30 x1) : PC Try.prog Γ 3 [x0, x1] (.bool true) := by
  obtain ⟨b, hf, ht, rfl⟩ := Bk.arg_book a0
  obtain ⟨o, ho, rfl⟩ := Bk.arg_op a1
  exact Bk.does_pc Γ b o hf ht ho
end Go.Proofs.Ytedcnbkhdkchoaa
