/- Books: a session counted. -/
import Derived.Test.YtjecieidmgkbaaaBP
namespace Go.Proofs.Ytjecieidmgkbaaa
open Go.RowKit
set_option linter.unusedVariables false
set_option linter.unusedSimpArgs false
namespace Bk
variable (Γ : Nat → Option (List Data))
theorem frz_work {b : Book} {o : Op} {H' : Nat → Blk} (h5 : H' 5 = .blk true ((flat (sesss b.opn)).map .data)) (h6 : H' 6 = .blk true ((flat (items b.items)).map .data)) (h7 : H' 7 = .blk true ((flat (locks b.locks)).map .data)) :
    FrzL true H' (([.data (.int .i64 b.next), .ref 5 0 b.opn.length 6, .ref 6 0 b.items.length 5, .ref 7 0 b.locks.length 3, .data (.int .i64 o.kind), .data (.int .i64 o.id), .data (.int .i64 o.link), .data (.int .u32 o.addr), .data (.str o.user), .data (.int .u64 o.inn), .data (.int .u64 o.out), .data (.int .i64 o.cause), .data (.int .i64 o.at_)].drop 0).take (workData b o).length) (workData b o) := by
  refine frzL_c ((frz_data _ _ _ _).2 rfl) (frzL_c (fz_sesss (rw := true) h5 (.inl rfl) rfl) (frzL_c (fz_items (rw := true) h6 (.inl rfl) rfl) (frzL_c (fz_locks (rw := true) h7 (.inl rfl) rfl) ?_)))
  exact frzL_c ((frz_data _ _ _ _).2 rfl) (frzL_c ((frz_data _ _ _ _).2 rfl) (frzL_c ((frz_data _ _ _ _).2 rfl) (frzL_c ((frz_data _ _ _ _).2 rfl) (frzL_c ((frz_data _ _ _ _).2 rfl) (frzL_c ((frz_data _ _ _ _).2 rfl) (frzL_c ((frz_data _ _ _ _).2 rfl) (frzL_c ((frz_data _ _ _ _).2 rfl) (frzL_c ((frz_data _ _ _ _).2 rfl) frzL_n))))))))
theorem countAt_neg {b : Book} {o : Op} {k : Int} (h : k < 0) : countAt b o k = (0, 5) := by unfold countAt; rw [if_pos h]
theorem sess_set2 (l : List Sess) (n : Nat) (h : n < l.length) (x y : Int) : (((flat (sesss l)).map D.data).set (n * 6 + 4) (.data (.int .u64 x))).set (n * 6 + 5) (.data (.int .u64 y)) = (flat (sesss (l.set n { l[n] with inn := x, out := y }))).map D.data := by
  rw [← sess_set l n h { l[n] with inn := x, out := y }]
  have hc := sess_cut l n h
  have hlen : ((flat (sesss l)).map D.data).length = l.length * 6 := by rw [List.length_map, flat_sesss_length]
  generalize (flat (sesss l)).map D.data = L at *
  have e : L = List.take (n * 6) L ++ (List.take 6 (List.drop (n * 6) L) ++ List.drop (n * 6 + 6) L) := by
    rw [← List.drop_drop, List.take_append_drop, List.take_append_drop]
  have ht : (List.take (n * 6) L).length = n * 6 := by rw [List.length_take]; omega
  conv => lhs; rw [e]
  rw [hc]
  rw [List.set_append_right _ _ (by omega), List.set_append_right _ _ (by omega), ht]
  simp [Nat.add_sub_cancel_left]
set_option maxHeartbeats 4000000 in
set_option maxRecDepth 100000 in
theorem count_dc (b : Book) (o : Op) (hk : o.kind = 2) (hs : Short b) : DC Try.prog Γ 48 [.ptr 10 0] (hpL (appL b o)) 83 (Ends (countedOp b o).1 b o (countedOp b o).2) := by
  refine dc_by mixed Try.func48 rfl (fun args w => Try.call48 args w) ?_
  have c1 := counted2_pc Γ b hs o
  have c4 := hasRoom_pc Γ b hs 1 (by omega)
  have hrg := first_range (fun s : Sess => decide (s.id = o.id)) b.opn 0
  obtain ⟨s1, s2, s3⟩ := hs
  have hr0 : countedOp b o = countedAt b o (ofId b o.id) := rfl
  rw [hr0]; clear hr0
  change ofId b o.id = -1 ∨ _ ≤ ofId b o.id ∧ ofId b o.id < _ at hrg
  generalize ofId b o.id = k at *
  unfold appL
  simp -implicitDefEqProofs (disch := omega) [go_sem]
  refine .inl (call_bare [10, 5, 6, 7] c1 (.tup _ (by simp; exact ⟨.int _ _, .int _ _⟩)) (fun H' hH => ?_) ?_)
  · have h10 := hH 10 (by simp)
    have h5 := hH 5 (by simp)
    have h6 := hH 6 (by simp)
    have h7 := hH 7 (by simp)
    simp -implicitDefEqProofs [go_sem] at h10 h5 h6 h7
    exact frzL_c (frz_ptrL h10 (.inl rfl) (frz_work h5 h6 h7)) frzL_n
  by_cases g1 : k < 0
  · have hr : countedAt b o k = (b, 5) := by unfold countedAt; rw [if_pos g1]
    have hq : countAt b o k = (0, 5) := by unfold countAt; rw [if_pos g1]
    rw [hq]
    rw [hr]
    simp -implicitDefEqProofs (disch := omega) [go_sem, Try.f48]
    exact ends_of (i := 5) (j := 6) (k := 7) (by omega) (by simp [go_sem]) ⟨[], by simp [go_sem]⟩ ⟨[], by simp [go_sem]⟩ ⟨[], by simp [go_sem]⟩ (by simp [go_sem]) (by simp [go_sem]) (by simp [go_sem]) (by omega)
  obtain ⟨n, rfl⟩ : ∃ n : Nat, k = n := ⟨k.toNat, by omega⟩
  have hn : n < b.opn.length := by omega
  have hgd : b.opn.getD ((n : Int)).toNat default = b.opn[n] := by rw [Int.toNat_natCast, List.getD_eq_getElem?_getD, List.getElem?_eq_getElem hn]; rfl
  by_cases g2 : o.inn < b.opn[n].inn ∨ o.out < b.opn[n].out
  · have hr : countedAt b o n = (b, 7) := by unfold countedAt; rw [if_neg g1, hgd, if_pos g2]
    have hq : countAt b o n = (0, 7) := by unfold countAt; rw [if_neg g1, hgd, if_pos g2]
    rw [hq]
    rw [hr]
    simp -implicitDefEqProofs (disch := omega) [go_sem, Try.f48]
    exact ends_of (i := 5) (j := 6) (k := 7) (by omega) (by simp [go_sem]) ⟨[], by simp [go_sem]⟩ ⟨[], by simp [go_sem]⟩ ⟨[], by simp [go_sem]⟩ (by simp [go_sem]) (by simp [go_sem]) (by simp [go_sem]) (by omega)
  have hq : countAt b o n = ((n : Int), 0) := by unfold countAt; rw [if_neg g1, hgd, if_neg g2]
  rw [hq]
  simp -implicitDefEqProofs (disch := omega) [go_sem]
  refine .inl (call_bare [10, 5, 6] c4 (by constructor) (fun H' hH => ?_) ?_)
  · have h10 := hH 10 (by simp)
    have h5 := hH 5 (by simp)
    have h6 := hH 6 (by simp)
    simp -implicitDefEqProofs [go_sem] at h10 h5 h6
    exact frzL_c (frz_ptrL h10 (.inl rfl) (frzL_c ((frz_data _ _ _ _).2 rfl) (frzL_c (fz_sesss (rw := true) h5 (.inl rfl) rfl) (frzL_c (fz_items (rw := true) h6 (.inl rfl) rfl) frzL_n)))) (frzL_c ((frz_data _ _ _ _).2 rfl) frzL_n)
  by_cases g4 : (b.items.length : Int) + b.opn.length + 1 ≤ 60
  rotate_left
  · have hr : countedAt b o n = (b, 4) := by unfold countedAt; rw [if_neg g1, hgd, if_neg g2, if_neg (by omega), if_pos (by omega)]
    rw [decide_eq_false g4]
    rw [hr]
    simp -implicitDefEqProofs (disch := omega) [go_sem, Try.f48]
    exact ends_of (i := 5) (j := 6) (k := 7) (by omega) (by simp [go_sem]) ⟨[], by simp [go_sem]⟩ ⟨[], by simp [go_sem]⟩ ⟨[], by simp [go_sem]⟩ (by simp [go_sem]) (by simp [go_sem]) (by simp [go_sem]) (by omega)
  have hr : countedAt b o n = ({ b with items := b.items ++ [⟨2, o.id, o.inn, o.out, 0⟩], opn := b.opn.set n { b.opn[n] with inn := o.inn, out := o.out } }, 0) := by unfold countedAt; rw [if_neg g1, hgd, if_neg g2, if_neg (by omega), if_neg (by omega), Int.toNat_natCast]
  rw [decide_eq_true g4, hr]
  simp -implicitDefEqProofs (disch := omega) [go_sem]
  refine side (by kernel_rfl) ?_
  simp -implicitDefEqProofs (disch := omega) [go_sem]
  refine side (by kernel_rfl) ?_
  simp -implicitDefEqProofs (disch := omega) [go_sem, Try.f48]
  exact ends_of (i := 5) (j := 149) (k := 7) (by omega) (by simp [go_sem]) ⟨[], by have := sess_set2 b.opn n hn o.inn o.out; simp [go_sem, this]⟩ ⟨[], by simp [go_sem, ← items_append, item_one]⟩ ⟨[], by simp [go_sem]⟩ (by simp [go_sem]) (by simp [go_sem]) (by simp [go_sem]) (by omega)
end Bk
end Go.Proofs.Ytjecieidmgkbaaa
