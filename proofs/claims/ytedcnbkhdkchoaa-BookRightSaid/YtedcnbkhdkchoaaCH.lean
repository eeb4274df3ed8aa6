/- Books: the laws BookTrims, BookCounts, BookFree, BookCloses, BookRight. (By genCH.py.) -/
import Derived.Test.YtedcnbkhdkchoaaCG
namespace Go.Proofs.Ytedcnbkhdkchoaa
open Go.RowKit
set_option linter.unusedVariables false
set_option linter.unusedSimpArgs false
set_option maxRecDepth 100000
namespace Bk
variable (Γ : Nat → Option (List Data))
theorem uU_ok : nameOk uU := by unfold nameOk; rw [uU_size]; omega
theorem opTrim_ty : (opTrim uU).Ty := by
  constructor <;> simp [opTrim, R64, U64, uU_size]
theorem rightV (b : Book) : ∃ v : Bool, v = true ↔ RightP b := by classical exact ⟨decide (RightP b), by simp⟩
/-- How many lines are kept of the first ones; which. -/
theorem kept_count (b : Book) : ∃ N : Nat → Nat, N 0 = 0 ∧ N b.items.length = (kept b b.items).length ∧ (∀ i, N i ≤ i) ∧
    (∀ (i : Nat) (h : i < b.items.length), 0 ≤ ofId b b.items[i].id → N (i + 1) = N i + 1 ∧ ∃ hh : N i < (kept b b.items).length, (kept b b.items)[N i] = b.items[i]) ∧
    (∀ (i : Nat) (h : i < b.items.length), ¬ 0 ≤ ofId b b.items[i].id → N (i + 1) = N i) := by
  refine ⟨fun i => (kept b (b.items.take i)).length, rfl, by simp only [List.take_length], fun i => ?_, fun i h hk => ?_, fun i h hk => ?_⟩
  · exact Nat.le_trans (List.length_filter_le _ _) (by simp; omega)
  · have h1 : kept b b.items = kept b (b.items.take i) ++ b.items[i] :: kept b (b.items.drop (i + 1)) := by
      conv => lhs; rw [← List.take_append_drop i b.items, List.drop_eq_getElem_cons h]
      unfold kept
      rw [List.filter_append, List.filter_cons_of_pos (by simpa using hk)]
    refine ⟨?_, by rw [h1]; simp, ?_⟩
    · simp only [kept_succ b i h, if_pos hk, List.length_append, List.length_singleton]
    · rw [List.getElem_of_eq h1]
      simp
  · simp only [kept_succ b i h, if_neg hk, List.append_nil]
set_option maxHeartbeats 8000000 in
set_option maxRecDepth 100000 in
theorem BookTrims_pc (b : Book) (hf : Fits b) (ht : b.Ty) : PC Try.prog Γ 8 [book b] (.bool true) := by
  refine pc_by mixed Try.func8 rfl (fun args w => Try.call8 args w) ?_
  have cs := shown_pc Γ
  obtain ⟨vr, hvr⟩ := rightV b
  have c0 := right_pc Γ b hf hvr
  simp -implicitDefEqProofs (disch := omega) [go_sem, book]
  refine .inl (call_data cs (by simp [go_sem]) ?_)
  simp -implicitDefEqProofs (disch := omega) [go_sem]
  refine .inl (call_data c0 (by simp [go_sem, book]) ?_)
  by_cases hr : RightP b
  rotate_left
  · have e : vr = false := by
      cases vr
      · rfl
      · exact absurd (hvr.1 rfl) hr
    simp -implicitDefEqProofs (disch := omega) [go_sem, e, Try.f8]
  have e : vr = true := hvr.2 hr
  have hw := well_of hf ht hr
  have htr := apply_trim b uU uU_ok
  have hrc := right_apply hr (opTrim uU)
  rw [htr] at hrc
  have c1 := apply2_pc Γ b (opTrim uU) (fine_of hr _)
  have hwc := well_apply hw (fine_of hr (opTrim uU)).n (fine_of hr (opTrim uU)).ln opTrim_ty
  rw [htr] at c1 hwc
  have htt := trim_twice b
  obtain ⟨N, N0, N1, N2, N3, N4⟩ := kept_count b
  obtain ⟨m, hm⟩ : ∃ m, kept b b.items = m := ⟨_, rfl⟩
  simp only [hm] at hrc c1 hwc htt N1 N3
  have c2 := apply2_pc Γ { b with items := m } (opTrim uU) (fine_of hrc _)
  rw [apply_trim _ uU uU_ok, htt] at c2
  have c3 := same_pc Γ { b with items := m } { b with items := m } (hwc.fits (by omega)) (hwc.fits (by omega)) hwc.ty hwc.ty
  rw [decide_eq_true rfl] at c3
  have c4 := right_pc Γ { b with items := m } (hwc.fits (by omega)) (q := true) ⟨fun _ => hrc, fun _ => rfl⟩
  have co := fun id => of_pc Γ b hf id
  have hml : m.length ≤ 61 := hwc.i
  have hbl := hr.len
  unfold out at c1 c2
  simp -implicitDefEqProofs (disch := omega) [go_sem, e]
  refine .inl (call_data c1 (by simp [go_sem, book, op, opTrim, uU]) ?_)
  simp -implicitDefEqProofs (disch := omega) [go_sem, book]
  refine .inl (call_data c2 (by simp [go_sem, book, op, opTrim, uU]) ?_)
  simp -implicitDefEqProofs (disch := omega) [go_sem, book]
  refine loop_ren (σ := { i : Nat // i ≤ b.items.length }) (fun i => ⟨envL [(1, .ptr 0 0), (3, .data (.bool true)), (4, .ptr 1 0), (5, .data (.int .i64 0)), (6, .ptr 2 0), (7, .data (.int .i64 0)), (8, .data (.int .i64 (N i.1))), (9, .data (.int .i64 i.1))], hpL [(0, .blk true [.data (.int .i64 b.next), .data (.sl 6 (sesss b.opn)), .data (.sl 5 (items b.items)), .data (.sl 3 (locks b.locks))]), (1, .blk true [.data (.int .i64 b.next), .data (.sl 6 (sesss b.opn)), .data (.sl 5 (items m)), .data (.sl 3 (locks b.locks))]), (2, .blk true [.data (.int .i64 b.next), .data (.sl 6 (sesss b.opn)), .data (.sl 5 (items m)), .data (.sl 3 (locks b.locks))])], 3, 0, 98⟩) (fun i => b.items.length - i.1) ⟨0, by omega⟩ [] (rhoL [(0, some 0), (1, some 13), (2, some 22)]) ?_ ?_
  · apply ren_lists <;> simp -implicitDefEqProofs [go_sem, N0]
  rintro ⟨i, hi⟩
  by_cases h : i < b.items.length
  · simp -implicitDefEqProofs (disch := omega) [go_sem]
    refine .inl (call_data (co b.items[i].id) (by simp [go_sem, book]) ?_)
    by_cases hk : 0 ≤ ofId b b.items[i].id
    rotate_left
    · have n1 := N4 i h hk
      simp -implicitDefEqProofs (disch := omega) [go_sem]
      refine side (by kernel_rfl) ?_
      simp -implicitDefEqProofs (disch := omega) [go_sem]
      refine next_ren ⟨i + 1, by omega⟩ (by simp only; omega) [] (rhoL [(0, some 0), (1, some 1), (2, some 2)]) ?_
      apply ren_lists <;> simp -implicitDefEqProofs [go_sem, n1]
    obtain ⟨n1, n2, n3⟩ := N3 i h hk
    have n4 := N2 i
    generalize N i = n at *
    simp -implicitDefEqProofs (disch := omega) [go_sem]
    refine side (by kernel_rfl) ?_
    simp -implicitDefEqProofs (disch := omega) [go_sem, n3]
    refine eqK_item (hwc.is _ (by rw [← n3]; exact List.getElem_mem n2)) (ht.i _ (List.getElem_mem h)) ?_
    simp -implicitDefEqProofs (disch := omega) [go_sem]
    refine side (by kernel_rfl) ?_
    simp -implicitDefEqProofs (disch := omega) [go_sem]
    refine next_ren ⟨i + 1, by omega⟩ (by simp only; omega) [] (rhoL [(0, some 0), (1, some 1), (2, some 2)]) ?_
    apply ren_lists <;> simp -implicitDefEqProofs [go_sem, n1]
  have hi2 : i = b.items.length := by omega
  subst hi2
  simp -implicitDefEqProofs (disch := omega) [go_sem, N1]
  refine .inl (call_data c3 (by simp [go_sem, book]) ?_)
  simp -implicitDefEqProofs (disch := omega) [go_sem, book]
  refine .inl (call_data c3 (by simp [go_sem, book]) ?_)
  simp -implicitDefEqProofs (disch := omega) [go_sem, book]
  refine .inl (call_data c4 (by simp [go_sem, book]) ?_)
  simp -implicitDefEqProofs (disch := omega) [go_sem, Try.results8]
set_option maxHeartbeats 8000000 in
set_option maxRecDepth 100000 in
theorem BookCounts_pc (b : Book) (o : Op) (hf : Fits b) (ht : b.Ty) (ho : o.Ty) : PC Try.prog Γ 7 [book b, op o] (.bool true) := by
  refine pc_by mixed Try.func7 rfl (fun args w => Try.call7 args w) ?_
  have cs := shown_pc Γ
  obtain ⟨vr, hvr⟩ := rightV b
  have c0 := right_pc Γ b hf hvr
  have hou := ho.user
  simp -implicitDefEqProofs (disch := omega) [go_sem, book, op]
  refine .inl (call_data cs (by simp [go_sem]) ?_)
  simp -implicitDefEqProofs (disch := omega) [go_sem]
  refine .inl (call_data c0 (by simp [go_sem, book]) ?_)
  by_cases hr : RightP b
  rotate_left
  · have e : vr = false := by
      cases vr
      · rfl
      · exact absurd (hvr.1 rfl) hr
    simp -implicitDefEqProofs (disch := omega) [go_sem, e, Try.f7]
  have e : vr = true := hvr.2 hr
  by_cases g : o.user.size ≤ 50
  rotate_left
  · simp -implicitDefEqProofs (disch := omega) [go_sem, e, Try.f7]
  have hw := well_of hf ht hr
  have hfi := fine_of hr o
  have c1 := apply2_pc Γ b o hfi
  have hwa := well_apply hw hfi.n hfi.ln ho
  have hcs := counts hr o
  have hR := right_apply hr o
  have hll := hR.ll
  have cf := fun u => failed_pc Γ _ (hwa.fits (by omega)) u
  unfold out at c1
  generalize (applyOp b o).1 = c at *
  generalize (applyOp b o).2 = er at *
  have hbl := hr.ll
  simp -implicitDefEqProofs (disch := omega) [go_sem, e]
  refine .inl (call_data c1 (by simp [go_sem, book, op]) ?_)
  simp -implicitDefEqProofs (disch := omega) [go_sem, book, op]
  refine loop_ren (σ := { i : Nat // i ≤ b.locks.length }) (fun i => ⟨envL [(2, .ptr 0 0), (3, .ptr 1 0), (5, .data (.bool true)), (6, .ptr 2 0), (7, .data (.int .i64 er)), (8, .data (.int .i64 i.1))], hpL [(0, .blk true [.data (.int .i64 b.next), .data (.sl 6 (sesss b.opn)), .data (.sl 5 (items b.items)), .data (.sl 3 (locks b.locks))]), (1, .blk true [.data (.int .i64 o.kind), .data (.int .i64 o.id), .data (.int .i64 o.link), .data (.int .u32 o.addr), .data (.str o.user), .data (.int .u64 o.inn), .data (.int .u64 o.out), .data (.int .i64 o.cause), .data (.int .i64 o.at_)]), (2, .blk true [.data (.int .i64 c.next), .data (.sl 6 (sesss c.opn)), .data (.sl 5 (items c.items)), .data (.sl 3 (locks c.locks))])], 3, 0, 122⟩) (fun i => b.locks.length - i.1) ⟨0, by omega⟩ [] (rhoL [(0, some 0), (1, some 1), (2, some 20)]) ?_ ?_
  · apply ren_lists <;> simp -implicitDefEqProofs [go_sem]
  rintro ⟨i, hi⟩
  by_cases h : i < b.locks.length
  · have hlt := ht.l _ (List.getElem_mem h)
    have hn0 := (hr.locks i h).n0
    have hn1 := (hr.locks i h).n1
    rcases hcs i h with ⟨e1, e2, e3, e4⟩ | ⟨e1, e2, e3, k, hk, e4, e5, e6⟩ | ⟨n1, n2, k, hk, e4, e5⟩
    · simp -implicitDefEqProofs (disch := omega) [go_sem]
      refine .inl (call_data (cf b.locks[i].user) (by simp [go_sem, book]) ?_)
      simp -implicitDefEqProofs (disch := omega) [go_sem, e1, e2, e3, e4]
      refine next_ren ⟨i + 1, by omega⟩ (by simp only; omega) [] (rhoL [(0, some 0), (1, some 1), (2, some 2)]) ?_
      apply ren_lists <;> simp -implicitDefEqProofs [go_sem]
    · simp -implicitDefEqProofs (disch := omega) [go_sem]
      refine .inl (call_data (cf b.locks[i].user) (by simp [go_sem, book]) ?_)
      simp -implicitDefEqProofs (disch := omega) [go_sem, e1, e2, e3, e4, e5, e6]
      refine side (by kernel_rfl) ?_
      simp -implicitDefEqProofs (disch := omega) [go_sem]
      refine next_ren ⟨i + 1, by omega⟩ (by simp only; omega) [] (rhoL [(0, some 0), (1, some 1), (2, some 2)]) ?_
      apply ren_lists <;> simp -implicitDefEqProofs [go_sem]
    · simp -implicitDefEqProofs (disch := omega) [go_sem]
      refine .inl (call_data (cf b.locks[i].user) (by simp [go_sem, book]) ?_)
      by_cases g1 : er = 0
      · by_cases g2 : o.user = b.locks[i].user
        · have g3 : ¬ o.kind = 5 := fun x => n1 ⟨g1, x, g2⟩
          have g4 : ¬ o.kind = 4 := fun x => n2 ⟨g1, x, g2⟩
          simp -implicitDefEqProofs (disch := omega) [go_sem, g1, g2, g3, g4, e4]
          refine eqK_lock (hwa.ls _ (List.getElem_mem hk)).1 hlt ?_
          simp -implicitDefEqProofs (disch := omega) [go_sem, e5]
          refine side (by kernel_rfl) ?_
          simp -implicitDefEqProofs (disch := omega) [go_sem]
          refine next_ren ⟨i + 1, by omega⟩ (by simp only; omega) [] (rhoL [(0, some 0), (1, some 1), (2, some 2)]) ?_
          apply ren_lists <;> simp -implicitDefEqProofs [go_sem]
        · by_cases g3 : o.kind = 5
          · by_cases g4 : o.kind = 4
            · omega
            simp -implicitDefEqProofs (disch := omega) [go_sem, g1, g2, g3, g4, e4]
            refine eqK_lock (hwa.ls _ (List.getElem_mem hk)).1 hlt ?_
            simp -implicitDefEqProofs (disch := omega) [go_sem, e5]
            refine side (by kernel_rfl) ?_
            simp -implicitDefEqProofs (disch := omega) [go_sem]
            refine next_ren ⟨i + 1, by omega⟩ (by simp only; omega) [] (rhoL [(0, some 0), (1, some 1), (2, some 2)]) ?_
            apply ren_lists <;> simp -implicitDefEqProofs [go_sem]
          · by_cases g4 : o.kind = 4
            · skip
              simp -implicitDefEqProofs (disch := omega) [go_sem, g1, g2, g3, g4, e4]
              refine eqK_lock (hwa.ls _ (List.getElem_mem hk)).1 hlt ?_
              simp -implicitDefEqProofs (disch := omega) [go_sem, e5]
              refine side (by kernel_rfl) ?_
              simp -implicitDefEqProofs (disch := omega) [go_sem]
              refine next_ren ⟨i + 1, by omega⟩ (by simp only; omega) [] (rhoL [(0, some 0), (1, some 1), (2, some 2)]) ?_
              apply ren_lists <;> simp -implicitDefEqProofs [go_sem]
            · skip
              simp -implicitDefEqProofs (disch := omega) [go_sem, g1, g2, g3, g4, e4]
              refine eqK_lock (hwa.ls _ (List.getElem_mem hk)).1 hlt ?_
              simp -implicitDefEqProofs (disch := omega) [go_sem, e5]
              refine side (by kernel_rfl) ?_
              simp -implicitDefEqProofs (disch := omega) [go_sem]
              refine next_ren ⟨i + 1, by omega⟩ (by simp only; omega) [] (rhoL [(0, some 0), (1, some 1), (2, some 2)]) ?_
              apply ren_lists <;> simp -implicitDefEqProofs [go_sem]
      · skip
        simp -implicitDefEqProofs (disch := omega) [go_sem, g1, e4]
        refine eqK_lock (hwa.ls _ (List.getElem_mem hk)).1 hlt ?_
        simp -implicitDefEqProofs (disch := omega) [go_sem, e5]
        refine side (by kernel_rfl) ?_
        simp -implicitDefEqProofs (disch := omega) [go_sem]
        refine next_ren ⟨i + 1, by omega⟩ (by simp only; omega) [] (rhoL [(0, some 0), (1, some 1), (2, some 2)]) ?_
        apply ren_lists <;> simp -implicitDefEqProofs [go_sem]
  simp -implicitDefEqProofs (disch := omega) [go_sem, Try.results7]
theorem below_zero (a : Int) : below [] a = 0 := rfl
theorem below_take (l : List Sess) (a : Int) (i : Nat) (h : i < l.length) : below (l.take (i + 1)) a = below (l.take i) a + if l[i].addr < a then 1 else 0 := by
  rw [List.take_succ_eq_append_getElem h]
  unfold below
  rw [List.countP_append, List.countP_singleton]
  by_cases g : l[i].addr < a <;> simp [g]
theorem below_le (l : List Sess) (a : Int) (i : Nat) : below (l.take i) a ≤ l.length := Nat.le_trans List.countP_le_length (by simp; omega)
theorem opOpen_ty {link a : Int} (h : R64 link) (ha : 0 ≤ a ∧ a ≤ 4294967295) : (opOpen link a uU).Ty := by
  constructor <;> simp [opOpen, R64, U64, uU_size] <;> first | exact h | omega
theorem opClose_ty {id : Int} (h : R64 id) : (opClose id uU).Ty := by
  constructor <;> simp [opClose, R64, U64, uU_size] <;> first | exact h | omega
set_option maxHeartbeats 8000000 in
set_option maxRecDepth 100000 in
theorem BookFree_pc (b : Book) (link : Int) (hf : Fits b) (ht : b.Ty) (hl : R64 link) : PC Try.prog Γ 6 [book b, .int .i64 link] (.bool true) := by
  refine pc_by mixed Try.func6 rfl (fun args w => Try.call6 args w) ?_
  have cs := shown_pc Γ
  obtain ⟨vr, hvr⟩ := rightV b
  have c0 := right_pc Γ b hf hvr
  simp -implicitDefEqProofs (disch := omega) [go_sem, book]
  refine .inl (call_data cs (by simp [go_sem]) ?_)
  simp -implicitDefEqProofs (disch := omega) [go_sem]
  refine .inl (call_data c0 (by simp [go_sem, book]) ?_)
  by_cases hr : RightP b
  rotate_left
  · have e : vr = false := by
      cases vr
      · rfl
      · exact absurd (hvr.1 rfl) hr
    simp -implicitDefEqProofs (disch := omega) [go_sem, e, Try.f6]
  have e : vr = true := hvr.2 hr
  have hw := well_of hf ht hr
  have hlen := hr.len
  have hn0 := hr.n0
  have hn1 := hr.n1
  have cf := free_pc Γ b hf
  rcases free_right hr with ⟨h1, h2⟩ | ⟨j, hj, h1, h2, h3, h4⟩
  · rw [h1] at cf
    simp -implicitDefEqProofs (disch := omega) [go_sem, e]
    refine .inl (call_data cf (by simp [go_sem, book]) ?_)
    simp -implicitDefEqProofs (disch := omega) [go_sem, h2, Try.f6]
  have cf0 := cf
  rw [h1] at cf
  have hot := open_then hr link (167772161 + (j : Int)) uU uU_ok
  have hfi := fine_of hr (opOpen link (167772161 + (j : Int)) uU)
  have c1 := apply2_pc Γ b _ hfi
  have hwa := well_apply hw hfi.n hfi.ln (opOpen_ty (a := 167772161 + (j : Int)) hl (by omega))
  have hR := right_apply hr (opOpen link (167772161 + (j : Int)) uU)
  have hm := fun x => free_more b.opn ⟨b.next, link, 167772161 + (j : Int), uU, 0, 0⟩ j rfl x
  have hm := hm h4
  generalize applyOp b (opOpen link (167772161 + (j : Int)) uU) = r1 at *
  obtain ⟨c, er⟩ := r1
  simp only at hot hwa hR
  have hfi2 := fine_of hR (opClose b.next uU)
  have c2 := apply2_pc Γ c _ hfi2
  have hwa2 := well_apply (well_of (hwa.fits (by omega)) hwa.ty hR) hfi2.n hfi2.ln (opClose_ty (id := b.next) (by constructor <;> omega))
  generalize applyOp c (opClose b.next uU) = r2 at *
  obtain ⟨d, er2⟩ := r2
  simp only at hot hwa2
  have c3 := free_pc Γ c (hwa.fits (by omega))
  have c4 := free_pc Γ d (hwa2.fits (by omega))
  unfold out at c1 c2
  simp only at c1 c2
  simp -implicitDefEqProofs (disch := omega) [go_sem, e]
  refine .inl (call_data cf (by simp [go_sem, book]) ?_)
  simp -implicitDefEqProofs (disch := omega) [go_sem, book]
  refine loop_ren (σ := { i : Nat // i ≤ b.opn.length }) (fun i => ⟨envL [(1, .data (.int .i64 link)), (2, .ptr 0 0), (5, .data (.bool true)), (6, .data (.int .u32 (167772161 + (j : Int)))), (8, .data (.int .i64 (below (b.opn.take i.1) (167772161 + (j : Int))))), (9, .data (.int .i64 i.1))], hpL [(0, .blk true [.data (.int .i64 b.next), .data (.sl 6 (sesss b.opn)), .data (.sl 5 (items b.items)), .data (.sl 3 (locks b.locks))])], 1, 0, 134⟩) (fun i => b.opn.length - i.1) ⟨0, by omega⟩ [] (rhoL [(0, some 0)]) ?_ ?_
  · apply ren_lists <;> simp -implicitDefEqProofs [go_sem, below_zero]
  rintro ⟨i, hi⟩
  have hb := below_le b.opn (167772161 + (j : Int)) i
  by_cases h : i < b.opn.length
  · have hs := h2 _ (List.getElem_mem h)
    have hbs := below_take b.opn (167772161 + (j : Int)) i h
    by_cases g : b.opn[i].addr < 167772161 + (j : Int)
    · rw [if_pos g] at hbs
      simp -implicitDefEqProofs (disch := omega) [go_sem, hs]
      refine next_ren ⟨i + 1, by omega⟩ (by simp only; omega) [] (rhoL [(0, some 0)]) ?_
      apply ren_lists <;> simp -implicitDefEqProofs [go_sem, hbs]
    · rw [if_neg g] at hbs
      simp -implicitDefEqProofs (disch := omega) [go_sem, hs]
      refine next_ren ⟨i + 1, by omega⟩ (by simp only; omega) [] (rhoL [(0, some 0)]) ?_
      apply ren_lists <;> simp -implicitDefEqProofs [go_sem, hbs]
  have hi2 : i = b.opn.length := by omega
  subst hi2
  rw [List.take_length] at *
  rw [h3] at *
  simp -implicitDefEqProofs (disch := omega) [go_sem]
  refine .inl (call_data c1 (by simp [go_sem, book, op, opOpen, uU]) ?_)
  simp -implicitDefEqProofs (disch := omega) [go_sem, book]
  rcases hot with (g | g | g) | ⟨g, ho, g2, hd⟩
  · subst g
    simp -implicitDefEqProofs (disch := omega) [go_sem, Try.f6]
  · subst g
    simp -implicitDefEqProofs (disch := omega) [go_sem, Try.f6]
  · subst g
    simp -implicitDefEqProofs (disch := omega) [go_sem, Try.f6]
  subst g
  subst g2
  rw [ho] at c3
  rw [hd, h1] at c4
  simp -implicitDefEqProofs (disch := omega) [go_sem]
  rcases hm with hm | ⟨i, hi, hi6, hm⟩
  · rw [hm] at c3
    refine .inl (call_data c3 (by simp [go_sem, book]) ?_)
    simp -implicitDefEqProofs (disch := omega) [go_sem, book]
    refine .inl (call_data c2 (by simp [go_sem, book, op, opClose, uU]) ?_)
    simp -implicitDefEqProofs (disch := omega) [go_sem, book]
    refine .inl (call_data c4 (by simp [go_sem, book]) ?_)
    simp -implicitDefEqProofs (disch := omega) [go_sem, Try.f6]
  · rw [hm] at c3
    refine .inl (call_data c3 (by simp [go_sem, book]) ?_)
    simp -implicitDefEqProofs (disch := omega) [go_sem, book]
    refine .inl (call_data c2 (by simp [go_sem, book, op, opClose, uU]) ?_)
    simp -implicitDefEqProofs (disch := omega) [go_sem, book]
    refine .inl (call_data c4 (by simp [go_sem, book]) ?_)
    simp -implicitDefEqProofs (disch := omega) [go_sem, Try.f6]
theorem cnt_zero (id k : Int) : cnt [] id k = 0 := rfl
theorem cnt_take (l : List Item) (id kd : Int) (i : Nat) (h : i < l.length) : cnt (l.take (i + 1)) id kd = cnt (l.take i) id kd + if l[i].id = id ∧ l[i].kind = kd then 1 else 0 := by
  rw [List.take_succ_eq_append_getElem h, cnt_snoc]
theorem cnt_le (l : List Item) (id kd : Int) (i : Nat) : cnt (l.take i) id kd ≤ l.length := Nat.le_trans List.countP_le_length (by simp; omega)
theorem closed_again {c : Book} (h : c.opn = []) : closeOp c = c := by
  cases c
  simp only at h
  subst h
  simp [closeOp, ends]
theorem free_none : freeOf [] 6 0 = (167772161, true) := by simp [freeOf, held, first]
set_option maxHeartbeats 8000000 in
set_option maxRecDepth 100000 in
theorem BookCloses_pc (b : Book) (hf : Fits b) (ht : b.Ty) : PC Try.prog Γ 5 [book b] (.bool true) := by
  refine pc_by mixed Try.func5 rfl (fun args w => Try.call5 args w) ?_
  have cs := shown_pc Γ
  obtain ⟨vr, hvr⟩ := rightV b
  have c0 := right_pc Γ b hf hvr
  simp -implicitDefEqProofs (disch := omega) [go_sem, book]
  refine .inl (call_data cs (by simp [go_sem]) ?_)
  simp -implicitDefEqProofs (disch := omega) [go_sem]
  refine .inl (call_data c0 (by simp [go_sem, book]) ?_)
  by_cases hr : RightP b
  rotate_left
  · have e : vr = false := by
      cases vr
      · rfl
      · exact absurd (hvr.1 rfl) hr
    simp -implicitDefEqProofs (disch := omega) [go_sem, e, Try.f5]
  have e : vr = true := hvr.2 hr
  have hw := well_of hf ht hr
  have hlen := hr.len
  have c1 := close2_pc Γ b (fine_of hr (opTrim uU)).s (fun i h => fine_close hr i h)
  rw [close_eq hr] at c1
  have hR := right_close hr
  have hwc := well_close hw
  have h1 : (closeOp b).opn = [] := rfl
  have h2 : (closeOp b).next = b.next := rfl
  have h3 : (closeOp b).locks = b.locks := rfl
  have h4 : (closeOp b).items.length = b.items.length + b.opn.length := by simp [closeOp, ends]
  generalize closeOp b = c at *
  have c2 := free_pc Γ c (hwc.fits (by omega))
  rw [h1, free_none] at c2
  have c3 := right_pc Γ c (hwc.fits (by omega)) (q := true) ⟨fun _ => hR, fun _ => rfl⟩
  have c4 := close2_pc Γ c (fine_of hR (opTrim uU)).s (fun i h => fine_close hR i h)
  rw [close_eq hR, closed_again h1] at c4
  have c5 := same_pc Γ c c (hwc.fits (by omega)) (hwc.fits (by omega)) hwc.ty hwc.ty
  rw [decide_eq_true rfl] at c5
  have hll := hr.ll
  have hcc := fun (x : Item) hx => closed_cnt hR h1 (x := x) hx
  simp -implicitDefEqProofs (disch := omega) [go_sem, e]
  refine .inl (call_data c1 (by simp [go_sem, book]) ?_)
  simp -implicitDefEqProofs (disch := omega) [go_sem, book]
  refine .inl (call_data c2 (by simp [go_sem, book]) ?_)
  simp -implicitDefEqProofs (disch := omega) [go_sem, book, h1]
  refine .inl (call_data c3 (by simp [go_sem, book, h1]) ?_)
  simp -implicitDefEqProofs (disch := omega) [go_sem, book, h1]
  refine .inl (call_data c4 (by simp [go_sem, book, h1]) ?_)
  simp -implicitDefEqProofs (disch := omega) [go_sem, book, h1]
  refine .inl (call_data c5 (by simp [go_sem, book, h1]) ?_)
  simp -implicitDefEqProofs (disch := omega) [go_sem, book, h1, h2, h4]
  refine side (by kernel_rfl) ?_
  simp -implicitDefEqProofs (disch := omega) [go_sem]
  refine loop_ren (σ := { i : Nat // i ≤ c.items.length }) (fun i => ⟨envL [(1, .ptr 0 0), (3, .data (.bool true)), (4, .ptr 1 0), (7, .data (.int .i64 i.1))], hpL [(0, .blk true [.data (.int .i64 b.next), .data (.sl 6 (sesss b.opn)), .data (.sl 5 (items b.items)), .data (.sl 3 (locks b.locks))]), (1, .blk true [.data (.int .i64 b.next), .data (.sl 6 (sesss [])), .data (.sl 5 (items c.items)), .data (.sl 3 (locks b.locks))])], 2, 0, 145⟩) (fun i => c.items.length - i.1) ⟨0, by omega⟩ [] (rhoL [(0, some 0), (1, some 9)]) ?_ ?_
  · apply ren_lists <;> simp -implicitDefEqProofs [go_sem, h1, h2, h3]
  rintro ⟨i, hi⟩
  by_cases h : i < c.items.length
  · simp -implicitDefEqProofs (disch := omega) [go_sem]
    refine loop_ren (σ := { k : Nat // k ≤ c.items.length }) (fun k => ⟨envL [(1, .ptr 0 0), (3, .data (.bool true)), (4, .ptr 1 0), (7, .data (.int .i64 i)), (8, .data (.int .i64 (cnt (c.items.take k.1) c.items[i].id 3))), (9, .data (.int .i64 (cnt (c.items.take k.1) c.items[i].id 1))), (10, .data (.int .i64 k.1))], hpL [(0, .blk true [.data (.int .i64 b.next), .data (.sl 6 (sesss b.opn)), .data (.sl 5 (items b.items)), .data (.sl 3 (locks b.locks))]), (1, .blk true [.data (.int .i64 b.next), .data (.sl 6 (sesss [])), .data (.sl 5 (items c.items)), .data (.sl 3 (locks b.locks))])], 2, 0, 145⟩) (fun k => c.items.length - k.1) ⟨0, by omega⟩ [] (rhoL [(0, some 0), (1, some 1)]) ?_ ?_
    · apply ren_lists <;> simp -implicitDefEqProofs [go_sem, cnt_zero]
    rintro ⟨k, hk⟩
    by_cases hkl : k < c.items.length
    · have e3 := cnt_take c.items c.items[i].id 3 k hkl
      have e1 := cnt_take c.items c.items[i].id 1 k hkl
      have l3 := cnt_le c.items c.items[i].id 3 k
      have l1 := cnt_le c.items c.items[i].id 1 k
      by_cases ga : c.items[k].id = c.items[i].id
      rotate_left
      · rw [if_neg (fun x => ga x.1)] at e3 e1
        simp -implicitDefEqProofs (disch := omega) [go_sem, ga]
        refine side (by kernel_rfl) ?_
        simp -implicitDefEqProofs (disch := omega) [go_sem, ga]
        refine side (by kernel_rfl) ?_
        simp -implicitDefEqProofs (disch := omega) [go_sem]
        refine next_ren ⟨k + 1, by omega⟩ (by simp only; omega) [] (rhoL [(0, some 0), (1, some 1)]) ?_
        apply ren_lists <;> simp -implicitDefEqProofs [go_sem, e1, e3]
      by_cases g3 : c.items[k].kind = 3
      · rw [if_pos ⟨ga, g3⟩] at e3
        rw [if_neg (fun x => by omega)] at e1
        simp -implicitDefEqProofs (disch := omega) [go_sem, ga, g3]
        refine side (by kernel_rfl) ?_
        simp -implicitDefEqProofs (disch := omega) [go_sem, ga, g3]
        refine side (by kernel_rfl) ?_
        simp -implicitDefEqProofs (disch := omega) [go_sem]
        refine next_ren ⟨k + 1, by omega⟩ (by simp only; omega) [] (rhoL [(0, some 0), (1, some 1)]) ?_
        apply ren_lists <;> simp -implicitDefEqProofs [go_sem, e1, e3]
      rw [if_neg (fun x => g3 x.2)] at e3
      by_cases g1 : c.items[k].kind = 1
      · rw [if_pos ⟨ga, g1⟩] at e1
        simp -implicitDefEqProofs (disch := omega) [go_sem, ga, g1]
        refine side (by kernel_rfl) ?_
        simp -implicitDefEqProofs (disch := omega) [go_sem, ga, g1]
        refine side (by kernel_rfl) ?_
        simp -implicitDefEqProofs (disch := omega) [go_sem]
        refine next_ren ⟨k + 1, by omega⟩ (by simp only; omega) [] (rhoL [(0, some 0), (1, some 1)]) ?_
        apply ren_lists <;> simp -implicitDefEqProofs [go_sem, e1, e3]
      rw [if_neg (fun x => g1 x.2)] at e1
      simp -implicitDefEqProofs (disch := omega) [go_sem, ga, g1, g3]
      refine side (by kernel_rfl) ?_
      simp -implicitDefEqProofs (disch := omega) [go_sem, ga, g1, g3]
      refine side (by kernel_rfl) ?_
      simp -implicitDefEqProofs (disch := omega) [go_sem]
      refine next_ren ⟨k + 1, by omega⟩ (by simp only; omega) [] (rhoL [(0, some 0), (1, some 1)]) ?_
      apply ren_lists <;> simp -implicitDefEqProofs [go_sem, e1, e3]
    have hk2 : k = c.items.length := by omega
    subst hk2
    obtain ⟨q1, q3⟩ := hcc _ (List.getElem_mem h)
    rw [List.take_length, q1, q3]
    simp -implicitDefEqProofs (disch := omega) [go_sem]
    refine next_ren ⟨i + 1, by omega⟩ (by simp only; omega) [] (rhoL [(0, some 0), (1, some 1)]) ?_
    apply ren_lists <;> simp -implicitDefEqProofs [go_sem]
  simp -implicitDefEqProofs (disch := omega) [go_sem, Try.f5]
def ops (l : List Op) : List Data := l.map op
@[go_sem] theorem ops_length (l : List Op) : (ops l).length = l.length := by simp [ops]
@[go_sem] theorem ops_get (l : List Op) (i : Nat) : (ops l)[i]? = (l[i]?).map op := by simp [ops]
@[go_sem] theorem op_cells (o : Op) : (op o).cells = [.int .i64 o.kind, .int .i64 o.id, .int .i64 o.link, .int .u32 o.addr, .str o.user, .int .u64 o.inn, .int .u64 o.out, .int .i64 o.cause, .int .i64 o.at_] := rfl
theorem ops_cells (l : List Op) : ∀ x ∈ ops l, x.cells.length = 9 := fun x hx => by obtain ⟨p, _, rfl⟩ := List.mem_map.1 hx; rfl
@[go_sem] theorem flat_ops_cell (l : List Op) : (∀ x ∈ flat (ops l), x.cell = true) ↔ True := iff_true_intro fun x hx => by
  obtain ⟨y, hy, hx⟩ := List.mem_flatMap.1 hx
  obtain ⟨p, _, rfl⟩ := List.mem_map.1 hy
  simp [op, Data.cells] at hx
  rcases hx with rfl | rfl | rfl | rfl | rfl | rfl | rfl | rfl | rfl <;> rfl
@[go_sem] theorem flat_ops_length (l : List Op) : (flat (ops l)).length = l.length * 9 := by rw [flat_len (ops_cells l), ops_length]
set_option maxHeartbeats 8000000 in
set_option maxRecDepth 100000 in
theorem BookRight_pc (b : Book) (l : List Op) (hf : Fits b) (ht : b.Ty) (hll : l.length ≤ 140737488351232) (ho : ∀ o ∈ l, o.Ty) : PC Try.prog Γ 4 [book b, .sl 9 (ops l)] (.bool true) := by
  refine pc_by mixed Try.func4 rfl (fun args w => Try.call4 args w) ?_
  have cs := shown_pc Γ
  obtain ⟨vr, hvr⟩ := rightV b
  have c0 := right_pc Γ b hf hvr
  simp -implicitDefEqProofs (disch := omega) [go_sem, book]
  refine .inl (call_data cs (by simp [go_sem]) ?_)
  simp -implicitDefEqProofs (disch := omega) [go_sem]
  refine .inl (call_data c0 (by simp [go_sem, book]) ?_)
  by_cases hr : RightP b
  rotate_left
  · have e : vr = false := by
      cases vr
      · rfl
      · exact absurd (hvr.1 rfl) hr
    simp -implicitDefEqProofs (disch := omega) [go_sem, e, Try.f4]
  have e : vr = true := hvr.2 hr
  by_cases g : l.length ≤ 60
  rotate_left
  · simp -implicitDefEqProofs (disch := omega) [go_sem, e, Try.f4]
  simp -implicitDefEqProofs (disch := omega) [go_sem, e]
  refine loop_ren (σ := { p : Nat × Book // p.1 ≤ l.length ∧ RightP p.2 ∧ Fits p.2 ∧ p.2.Ty }) (fun p => ⟨envL [(1, .data (.sl 9 (ops l))), (2, .ptr 0 0), (5, .data (.bool true)), (6, .data (.int .i64 p.1.1))], hpL [(0, .blk true [.data (.int .i64 p.1.2.next), .data (.sl 6 (sesss p.1.2.opn)), .data (.sl 5 (items p.1.2.items)), .data (.sl 3 (locks p.1.2.locks))])], 1, 0, 61⟩) (fun p => l.length - p.1.1) ⟨(0, b), by omega, hr, hf, ht⟩ [] (rhoL [(0, some 0)]) ?_ ?_
  · apply ren_lists <;> simp -implicitDefEqProofs [go_sem]
  rintro ⟨⟨i, b⟩, hi, hr, hf, ht⟩
  simp only at hi hr hf ht
  by_cases h : i < l.length
  rotate_left
  · have c9 := right2_pc Γ b hr ht.i
    simp -implicitDefEqProofs (disch := omega) [go_sem]
    refine .inl (call_data c9 (by simp [go_sem, book]) ?_)
    simp -implicitDefEqProofs (disch := omega) [go_sem, Try.f4]
  by_cases gu : l[i].user.size ≤ 50
  rotate_left
  · simp -implicitDefEqProofs (disch := omega) [go_sem, Try.f4]
  have hw := well_of hf ht hr
  have hfi := fine_of hr l[i]
  have c1 := apply2_pc Γ b l[i] hfi
  have hwa := well_apply hw hfi.n hfi.ln (ho _ (List.getElem_mem h))
  have hR := right_apply hr l[i]
  have her := apply_err b l[i]
  generalize applyOp b l[i] = r at *
  obtain ⟨c, er⟩ := r
  unfold out at c1
  simp only at c1 hwa hR her
  have c2 := right_pc Γ c (hwa.fits (by omega)) (q := true) ⟨fun _ => hR, fun _ => rfl⟩
  simp -implicitDefEqProofs (disch := omega) [go_sem]
  refine .inl (call_data c1 (by simp [go_sem, book, op]) ?_)
  simp -implicitDefEqProofs (disch := omega) [go_sem, book]
  refine side (by kernel_rfl) ?_
  simp -implicitDefEqProofs (disch := omega) [go_sem, book]
  refine .inl (call_data c2 (by simp [go_sem, book]) ?_)
  by_cases ge : er = 0
  · simp -implicitDefEqProofs (disch := omega) [go_sem, ge]
    refine next_ren ⟨(i + 1, c), by simp only; omega, hR, hwa.fits (by omega), hwa.ty⟩ (by simp only; omega) [] (rhoL [(0, some 0)]) ?_
    apply ren_lists <;> simp -implicitDefEqProofs [go_sem]
  have hcb : c = b := her.resolve_left ge
  have c3 := same_pc Γ b c hf (hwa.fits (by omega)) ht hwa.ty
  rw [decide_eq_true hcb.symm] at c3
  simp -implicitDefEqProofs (disch := omega) [go_sem, ge]
  refine .inl (call_data c3 (by simp [go_sem, book]) ?_)
  simp -implicitDefEqProofs (disch := omega) [go_sem, book]
  refine next_ren ⟨(i + 1, c), by simp only; omega, hR, hwa.fits (by omega), hwa.ty⟩ (by simp only; omega) [] (rhoL [(0, some 0)]) ?_
  apply ren_lists <;> simp -implicitDefEqProofs [go_sem]
end Bk
theorem law_BookTrims (Γ : Nat → Option (List Data)) {x0 : Data} (a0 : argD Try.prog 8 26 x0) : PC Try.prog Γ 8 [x0] (.bool true) := by
  obtain ⟨b, hf, ht, rfl⟩ := Bk.arg_book a0
  exact Bk.BookTrims_pc Γ b hf ht
theorem law_BookCloses (Γ : Nat → Option (List Data)) {x0 : Data} (a0 : argD Try.prog 8 26 x0) : PC Try.prog Γ 5 [x0] (.bool true) := by
  obtain ⟨b, hf, ht, rfl⟩ := Bk.arg_book a0
  exact Bk.BookCloses_pc Γ b hf ht
theorem law_BookCounts (Γ : Nat → Option (List Data)) {x0 x1 : Data} (a0 : argD Try.prog 8 26 x0) (a1 : argD Try.prog 8 30 x1) : PC Try.prog Γ 7 [x0, x1] (.bool true) := by
  obtain ⟨b, hf, ht, rfl⟩ := Bk.arg_book a0
  obtain ⟨o, ho, rfl⟩ := Bk.arg_op a1
  exact Bk.BookCounts_pc Γ b o hf ht ho
theorem law_BookFree (Γ : Nat → Option (List Data)) {x0 x1 : Data} (a0 : argD Try.prog 8 26 x0) (a1 : argD Try.prog 8 3 x1) : PC Try.prog Γ 6 [x0, x1] (.bool true) := by
  obtain ⟨b, hf, ht, rfl⟩ := Bk.arg_book a0
  obtain ⟨l, h1, h2, rfl⟩ := arg_i64 Try.underlying3 a1
  exact Bk.BookFree_pc Γ b l hf ht ⟨h1, h2⟩
theorem law_BookRight (Γ : Nat → Option (List Data)) {x0 x1 : Data} (a0 : argD Try.prog 8 26 x0) (a1 : argD Try.prog 8 41 x1) : PC Try.prog Γ 4 [x0, x1] (.bool true) := by
  obtain ⟨b, hf, ht, rfl⟩ := Bk.arg_book a0
  obtain ⟨l, rfl, hl, hx⟩ := arg_slice Try.underlying41 a1
  obtain ⟨l, rfl, hp⟩ := Bk.lift_rows fun x hx2 => Bk.arg_op (hx x hx2)
  rw [show Try.prog.cellsOf 30 = 9 by kernel_rfl]
  exact Bk.BookRight_pc Γ b l hf ht (by simpa using hl) hp
end Go.Proofs.Ytedcnbkhdkchoaa
