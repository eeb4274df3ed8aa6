/- Books: a session begins. -/
import Derived.Test.YtjecieidmgkbaaaBN
namespace Go.Proofs.Ytjecieidmgkbaaa
open Go.RowKit
set_option linter.unusedVariables false
set_option linter.unusedSimpArgs false
namespace Bk
variable (Γ : Nat → Option (List Data))
theorem item_one (x : Item) : flat (items [x]) = [.int .i64 x.kind, .int .i64 x.id, .int .u64 x.inn, .int .u64 x.out, .int .i64 x.cause] := rfl
theorem lock_one (x : Lock) : flat (locks [x]) = [.str x.user, .int .i64 x.n, .int .i64 x.at_] := rfl
theorem busy_iff (b : Book) (o : Op) : Busy b o ↔ 0 ≤ first (fun s : Sess => decide (s.link = o.link)) 0 b.opn ∨ 0 ≤ first (fun s : Sess => decide (s.addr = o.addr)) 0 b.opn := by
  have some : ∀ (p : Sess → Bool), 0 ≤ first p 0 b.opn ↔ ∃ (i : Nat) (h : i < b.opn.length), p b.opn[i] = true := fun p => by
    constructor
    · intro h
      apply Classical.byContradiction
      intro hn
      have : first p 0 b.opn = -1 := first_none fun a ha => by
        obtain ⟨j, hj, rfl⟩ := List.mem_iff_getElem.1 ha
        cases hp : p b.opn[j] with
        | false => rfl
        | true => exact absurd ⟨j, hj, hp⟩ hn
      omega
    · rintro ⟨i, hi, hp⟩
      rcases first_range p b.opn 0 with h | h
      · exfalso
        have key : ∀ (l : List Sess) (n : Nat), first p n l = -1 → ∀ a ∈ l, p a = false := by
          intro l
          induction l with
          | nil => intro n _ a ha; cases ha
          | cons x l ih =>
            intro n h a ha
            simp only [first] at h
            split at h
            · omega
            · rename_i hx
              rcases List.mem_cons.1 ha with rfl | ha
              · simpa using hx
              · exact ih (n + 1) h a ha
        have := key b.opn 0 h _ (List.getElem_mem hi)
        rw [hp] at this; cases this
      · omega
  rw [some, some]
  unfold Busy
  constructor
  · rintro ⟨i, h, hk | hk⟩
    · exact .inl ⟨i, h, by simpa using hk⟩
    · exact .inr ⟨i, h, by simpa using hk⟩
  · rintro (⟨i, h, hk⟩ | ⟨i, h, hk⟩)
    · exact ⟨i, h, .inl (by simpa using hk)⟩
    · exact ⟨i, h, .inr (by simpa using hk)⟩
set_option maxHeartbeats 4000000 in
set_option maxRecDepth 100000 in
theorem begin_dc (b : Book) (o : Op) (hs : Short b) (h0 : 0 ≤ b.next ∧ b.next ≤ 1000000000) : DC Try.prog Γ 47 [.ptr 10 0] (hpL (appL b o)) 83 (Ends (openedOp b o).1 b o (openedOp b o).2) := by
  refine dc_by mixed Try.func47 rfl (fun args w => Try.call47 args w) ?_
  obtain ⟨s1, s2, s3⟩ := hs
  have c1 := isOfPool_pc Γ o.addr
  have c2 := hasLink_pc Γ b.opn (by omega) o.link
  have c3 := hasAddr_pc Γ b.opn (by omega) o.addr
  have c4 := hasRoom_pc Γ b ⟨s1, s2, s3⟩ 2 (by omega)
  have hbusy := busy_iff b o
  unfold appL
  simp -implicitDefEqProofs (disch := omega) [go_sem]
  refine .inl (call_data c1 (by simp [go_sem]) ?_)
  by_cases g1 : poolOk o.addr
  rotate_left
  · have hr : openedOp b o = (b, 1) := by unfold openedOp; rw [if_pos g1]
    rw [hr]
    simp -implicitDefEqProofs (disch := omega) [go_sem, g1, Try.f47]
    exact ends_of (i := 5) (j := 6) (k := 7) (by omega) (by simp [go_sem]) ⟨[], by simp [go_sem]⟩ ⟨[], by simp [go_sem]⟩ ⟨[], by simp [go_sem]⟩ (by simp [go_sem]) (by simp [go_sem]) (by simp [go_sem]) (by omega)
  simp -implicitDefEqProofs (disch := omega) [go_sem, g1]
  refine .inl (call_bare [5] c2 (by constructor) (fun H' hH => ?_) ?_)
  · have h5 := hH 5 (by simp)
    simp -implicitDefEqProofs [go_sem] at h5
    exact frzL_c (fz_sesss (rw := true) h5 (.inl rfl) rfl) (frzL_c ((frz_data _ _ _ _).2 rfl) frzL_n)
  by_cases g2 : 0 ≤ first (fun s : Sess => decide (s.link = o.link)) 0 b.opn
  · have hr : openedOp b o = (b, 6) := by unfold openedOp; rw [if_neg (by simpa using g1), if_pos (hbusy.2 (.inl g2))]
    rw [decide_eq_true g2]
    simp -implicitDefEqProofs (disch := omega) [go_sem]
    refine side (by kernel_rfl) ?_
    rw [hr]
    simp -implicitDefEqProofs (disch := omega) [go_sem, Try.f47]
    exact ends_of (i := 5) (j := 6) (k := 7) (by omega) (by simp [go_sem]) ⟨[], by simp [go_sem]⟩ ⟨[], by simp [go_sem]⟩ ⟨[], by simp [go_sem]⟩ (by simp [go_sem]) (by simp [go_sem]) (by simp [go_sem]) (by omega)
  rw [decide_eq_false g2]
  simp -implicitDefEqProofs (disch := omega) [go_sem]
  refine .inl (call_bare [5] c3 (by constructor) (fun H' hH => ?_) ?_)
  · have h5 := hH 5 (by simp)
    simp -implicitDefEqProofs [go_sem] at h5
    exact frzL_c (fz_sesss (rw := true) h5 (.inl rfl) rfl) (frzL_c ((frz_data _ _ _ _).2 rfl) frzL_n)
  by_cases g3 : 0 ≤ first (fun s : Sess => decide (s.addr = o.addr)) 0 b.opn
  · have hr : openedOp b o = (b, 6) := by unfold openedOp; rw [if_neg (by simpa using g1), if_pos (hbusy.2 (.inr g3))]
    rw [decide_eq_true g3]
    simp -implicitDefEqProofs (disch := omega) [go_sem]
    refine side (by kernel_rfl) ?_
    rw [hr]
    simp -implicitDefEqProofs (disch := omega) [go_sem, Try.f47]
    exact ends_of (i := 5) (j := 6) (k := 7) (by omega) (by simp [go_sem]) ⟨[], by simp [go_sem]⟩ ⟨[], by simp [go_sem]⟩ ⟨[], by simp [go_sem]⟩ (by simp [go_sem]) (by simp [go_sem]) (by simp [go_sem]) (by omega)
  have hfree : ¬ Busy b o := fun hk => by rcases hbusy.1 hk with h | h <;> contradiction
  rw [decide_eq_false g3]
  simp -implicitDefEqProofs (disch := omega) [go_sem]
  refine side (by kernel_rfl) ?_
  simp -implicitDefEqProofs (disch := omega) [go_sem]
  refine .inl (call_bare [10, 5, 6] c4 (by constructor) (fun H' hH => ?_) ?_)
  · have h10 := hH 10 (by simp)
    have h5 := hH 5 (by simp)
    have h6 := hH 6 (by simp)
    simp -implicitDefEqProofs [go_sem] at h10 h5 h6
    exact frzL_c (frz_ptrL h10 (.inl rfl) (frzL_c ((frz_data _ _ _ _).2 rfl) (frzL_c (fz_sesss (rw := true) h5 (.inl rfl) rfl) (frzL_c (fz_items (rw := true) h6 (.inl rfl) rfl) frzL_n)))) (frzL_c ((frz_data _ _ _ _).2 rfl) frzL_n)
  by_cases g4 : (b.items.length : Int) + b.opn.length + 2 ≤ 60
  rotate_left
  · have hr : openedOp b o = (b, 4) := by unfold openedOp; rw [if_neg (by simpa using g1), if_neg hfree, if_pos (.inl (by omega))]
    rw [decide_eq_false g4]
    rw [hr]
    simp -implicitDefEqProofs (disch := omega) [go_sem, Try.f47]
    exact ends_of (i := 5) (j := 6) (k := 7) (by omega) (by simp [go_sem]) ⟨[], by simp [go_sem]⟩ ⟨[], by simp [go_sem]⟩ ⟨[], by simp [go_sem]⟩ (by simp [go_sem]) (by simp [go_sem]) (by simp [go_sem]) (by omega)
  rw [decide_eq_true g4]
  by_cases g5 : b.next = 1000000000
  · have hr : openedOp b o = (b, 4) := by unfold openedOp; rw [if_neg (by simpa using g1), if_neg hfree, if_pos (.inr g5)]
    rw [hr]
    simp -implicitDefEqProofs (disch := omega) [go_sem, g5, Try.f47]
    exact ends_of (i := 5) (j := 6) (k := 7) (by omega) (by simp [go_sem, g5]) ⟨[], by simp [go_sem, g5]⟩ ⟨[], by simp [go_sem, g5]⟩ ⟨[], by simp [go_sem, g5]⟩ (by simp [go_sem, g5]) (by simp [go_sem, g5]) (by simp [go_sem, g5]) (by omega)
  have hr : openedOp b o = ({ next := b.next + 1, opn := b.opn ++ [⟨b.next, o.link, o.addr, o.user, 0, 0⟩], items := b.items ++ [⟨1, b.next, 0, 0, 0⟩], locks := b.locks }, 0) := by unfold openedOp; rw [if_neg (by simpa using g1), if_neg hfree, if_neg (by simp [g5]; omega)]
  rw [hr]
  simp -implicitDefEqProofs (disch := omega) [go_sem]
  refine side (by kernel_rfl) ?_
  simp -implicitDefEqProofs (disch := omega) [go_sem]
  refine side (by kernel_rfl) ?_
  simp -implicitDefEqProofs (disch := omega) [go_sem, Try.f47]
  exact ends_of (i := 157) (j := 175) (k := 7) (by omega) (by simp [go_sem]) ⟨[], by simp [go_sem, ← sesss_append, flat_sess1]⟩ ⟨[], by simp [go_sem, ← items_append, item_one]⟩ ⟨[], by simp [go_sem]⟩ (by simp [go_sem]) (by simp [go_sem]) (by simp [go_sem]) (by omega)
end Bk
end Go.Proofs.Ytjecieidmgkbaaa
