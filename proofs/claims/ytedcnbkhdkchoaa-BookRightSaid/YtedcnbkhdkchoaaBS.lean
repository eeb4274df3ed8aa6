/- Books: an element taken out of a row. -/
import Derived.Test.YtedcnbkhdkchoaaBL
namespace Go.Proofs.Ytedcnbkhdkchoaa
open Go.RowKit
set_option linter.unusedVariables false
set_option linter.unusedSimpArgs false
namespace Bk
variable (Γ : Nat → Option (List Data))
/-- The first of the cells that were moved to the left, and noughts behind them. -/
theorem cut_left {L z : List D} {i n es : Nat} (hes : 0 < es) (hi : i < n) (hL : L.length = n * es) (hz : z.length = es) :
    over (over L (i * es) ((L.drop ((i + 1) * es)).take ((n - (i + 1)) * es))) ((n - 1) * es) z = L.take (i * es) ++ L.drop ((i + 1) * es) ++ z := by
  have e1 : (i + 1) * es = i * es + es := by rw [Nat.add_mul, Nat.one_mul]
  have e2 : (n - (i + 1)) * es = n * es - (i * es + es) := by rw [Nat.sub_mul, e1]
  have e3 : (n - 1) * es = n * es - es := by rw [Nat.sub_mul, Nat.one_mul]
  have e4 : i * es + es ≤ n * es := by rw [← e1]; exact Nat.mul_le_mul_right _ hi
  rw [e1, e2, e3]
  have h1 : (L.drop (i * es + es)).take (n * es - (i * es + es)) = L.drop (i * es + es) := List.take_of_length_le (by rw [List.length_drop, hL]; omega)
  rw [h1]
  have hd : (L.drop (i * es + es)).length = n * es - (i * es + es) := by rw [List.length_drop, hL]
  apply List.ext_getElem?
  intro q
  have hfit : i * es + (L.drop (i * es + es)).length ≤ L.length := by omega
  rw [over_get (by rw [over_length hfit]; omega), over_get hfit]
  have ht : (L.take (i * es)).length = i * es := by rw [List.length_take]; omega
  by_cases a : n * es - es ≤ q
  · rw [List.getElem?_append_right (by rw [List.length_append, ht, hd]; omega), List.length_append, ht, hd, show i * es + (n * es - (i * es + es)) = n * es - es by omega]
    by_cases b : q < n * es - es + z.length
    · rw [if_pos ⟨a, b⟩]
    · rw [if_neg (by omega), if_neg (by omega), List.getElem?_eq_none (by omega), List.getElem?_eq_none (by omega)]
  · rw [if_neg (by omega), List.getElem?_append_left (by rw [List.length_append, ht, hd]; omega)]
    by_cases b : q < i * es
    · rw [if_neg (by omega), List.getElem?_append_left (by omega), List.getElem?_take_of_lt b]
    · rw [if_pos (by omega), List.getElem?_append_right (by omega), ht]
theorem sesss_cutout (l : List Sess) (i : Nat) (hi : i < l.length) : ((flat (sesss l)).map D.data).take (i * 6) ++ ((flat (sesss l)).map D.data).drop ((i + 1) * 6) = (flat (sesss (l.take i ++ l.drop (i + 1)))).map D.data := by
  rw [← List.map_take, ← List.map_drop, ← flat_take (sesss_cells l) i (by rw [sesss_length]; omega), ← flat_drop (sesss_cells l) (i + 1) (by rw [sesss_length]; omega), sesss_take, sesss_drop, ← sesss_append, List.map_append]
set_option maxHeartbeats 4000000 in
set_option maxRecDepth 100000 in
theorem deleteSess_dc (H : Nat → Blk) (l : List Sess) (hH : H 5 = .blk true ((flat (sesss l)).map .data)) (i : Nat) (hi : i < l.length) (hl : l.length ≤ 1000000) {K : D → (Nat → Blk) → Nat → Prop}
    (hk : K (.ref 5 0 (l.length - 1) 6) (Hp.set H 5 (.blk true ((flat (sesss (l.take i ++ l.drop (i + 1)))).map .data ++ [.data (.int .i64 0), .data (.int .i64 0), .data (.int .u32 0), .data (.str ByteArray.empty), .data (.int .u64 0), .data (.int .u64 0)]))) 131) :
    DC Try.prog Γ 121 [.ref 5 0 l.length 6, .data (.int .i64 i), .data (.int .i64 ((i : Int) + 1))] H 102 K := by
  refine dc_weak (dc_recut (by omega) ?_)
  refine dc_by mixed Try.func121 rfl (fun args w => Try.call121 args w) ?_
  have hne : ¬ ((i : Int) = (i : Int) + 1) := by omega
  simp -implicitDefEqProofs (disch := omega) [go_sem, hH, hne]
  refine side (fun x hx => ?_) ?_
  · obtain ⟨y, hy, rfl⟩ := List.mem_map.1 (List.mem_of_mem_drop (List.mem_of_mem_take hx))
    exact (flat_sesss_cell l).2 trivial y hy
  simp -implicitDefEqProofs (disch := omega) [go_sem, hH]
  refine side (by kernel_rfl) ?_
  have hN : ((i : Int) + ((l.length - (i + 1) : Nat) : Int)).toNat = l.length - 1 := by omega
  have hN1 : l.length - (l.length - 1) = 1 := by omega
  have hLl : ((flat (sesss l)).map D.data).length = l.length * 6 := by rw [List.length_map, flat_sesss_length]
  have hov : (over ((flat (sesss l)).map D.data) (i * 6) (List.take ((l.length - (i + 1)) * 6) (List.drop ((i + 1) * 6) ((flat (sesss l)).map D.data)))).length = l.length * 6 := by
    rw [over_length (by rw [List.length_take, List.length_drop, hLl]; omega), hLl]
  simp -implicitDefEqProofs (disch := omega) [go_sem, hH, hN, hN1, hov, Try.f121]
  have key := cut_left (L := (flat (sesss l)).map D.data) (z := [.data (.int .i64 0), .data (.int .i64 0), .data (.int .u32 0), .data (.str ByteArray.empty), .data (.int .u64 0), .data (.int .u64 0)]) (i := i) (n := l.length) (es := 6) (by omega) hi hLl rfl
  rw [sesss_cutout l i hi] at key
  simp only [over_two, List.length_cons, List.length_nil, List.append_assoc, List.cons_append, List.nil_append, Nat.reduceAdd] at key
  rw [key, show i + (l.length - (i + 1)) = l.length - 1 by omega]
  exact hk
theorem locks_cutout (l : List Lock) (i : Nat) (hi : i < l.length) : ((flat (locks l)).map D.data).take (i * 3) ++ ((flat (locks l)).map D.data).drop ((i + 1) * 3) = (flat (locks (l.take i ++ l.drop (i + 1)))).map D.data := by
  rw [← List.map_take, ← List.map_drop, ← flat_take (locks_cells l) i (by rw [locks_length]; omega), ← flat_drop (locks_cells l) (i + 1) (by rw [locks_length]; omega), locks_take, locks_drop, ← locks_append, List.map_append]
set_option maxHeartbeats 4000000 in
set_option maxRecDepth 100000 in
theorem deleteLock_dc (H : Nat → Blk) (l : List Lock) (hH : H 7 = .blk true ((flat (locks l)).map .data)) (i : Nat) (hi : i < l.length) (hl : l.length ≤ 1000000) {K : D → (Nat → Blk) → Nat → Prop}
    (hk : K (.ref 7 0 (l.length - 1) 3) (Hp.set H 7 (.blk true ((flat (locks (l.take i ++ l.drop (i + 1)))).map .data ++ [.data (.str ByteArray.empty), .data (.int .i64 0), .data (.int .i64 0)]))) 136) :
    DC Try.prog Γ 122 [.ref 7 0 l.length 3, .data (.int .i64 i), .data (.int .i64 ((i : Int) + 1))] H 107 K := by
  refine dc_weak (dc_recut (by omega) ?_)
  refine dc_by mixed Try.func122 rfl (fun args w => Try.call122 args w) ?_
  have hne : ¬ ((i : Int) = (i : Int) + 1) := by omega
  simp -implicitDefEqProofs (disch := omega) [go_sem, hH, hne]
  refine side (fun x hx => ?_) ?_
  · obtain ⟨y, hy, rfl⟩ := List.mem_map.1 (List.mem_of_mem_drop (List.mem_of_mem_take hx))
    exact (flat_locks_cell l).2 trivial y hy
  simp -implicitDefEqProofs (disch := omega) [go_sem, hH]
  refine side (by kernel_rfl) ?_
  have hN : ((i : Int) + ((l.length - (i + 1) : Nat) : Int)).toNat = l.length - 1 := by omega
  have hN1 : l.length - (l.length - 1) = 1 := by omega
  have hLl : ((flat (locks l)).map D.data).length = l.length * 3 := by rw [List.length_map, flat_locks_length]
  have hov : (over ((flat (locks l)).map D.data) (i * 3) (List.take ((l.length - (i + 1)) * 3) (List.drop ((i + 1) * 3) ((flat (locks l)).map D.data)))).length = l.length * 3 := by
    rw [over_length (by rw [List.length_take, List.length_drop, hLl]; omega), hLl]
  simp -implicitDefEqProofs (disch := omega) [go_sem, hH, hN, hN1, hov, Try.f122]
  have key := cut_left (L := (flat (locks l)).map D.data) (z := [.data (.str ByteArray.empty), .data (.int .i64 0), .data (.int .i64 0)]) (i := i) (n := l.length) (es := 3) (by omega) hi hLl rfl
  rw [locks_cutout l i hi] at key
  simp only [over_two, List.length_cons, List.length_nil, List.append_assoc, List.cons_append, List.nil_append, Nat.reduceAdd] at key
  rw [key, show i + (l.length - (i + 1)) = l.length - 1 by omega]
  exact hk
set_option maxHeartbeats 4000000 in
set_option maxRecDepth 100000 in
theorem stop_dc (b : Book) (o : Op) (hk : o.kind = 3) (hs : Short b) : DC Try.prog Γ 88 [.ptr 10 0] (hpL (appL b o)) 83 (Ends (countedOp b o).1 b o (countedOp b o).2) := by
  refine dc_by mixed Try.func88 rfl (fun args w => Try.call88 args w) ?_
  have c1 := counted2_pc Γ b hs o
  have hrg := first_range (fun s : Sess => decide (s.id = o.id)) b.opn 0
  obtain ⟨s1, s2, s3⟩ := hs
  have hr0 : countedOp b o = countedAt b o (ofId b o.id) := rfl
  rw [hr0]; clear hr0
  change ofId b o.id = -1 ∨ _ ≤ ofId b o.id ∧ ofId b o.id < _ at hrg
  generalize ofId b o.id = k at *
  unfold appL
  simp -implicitDefEqProofs (disch := omega) [go_sem]
  refine .inl (call_bare [10, 5, 6, 7] c1 (.tup _ (by simp; exact ⟨.int _ _, .int _ _⟩)) (fun H' hH => ?_) ?_)
  · have h10 := hH 10 (by simp)
    have h5 := hH 5 (by simp)
    have h6 := hH 6 (by simp)
    have h7 := hH 7 (by simp)
    simp -implicitDefEqProofs [go_sem] at h10 h5 h6 h7
    exact frzL_c (frz_ptrL h10 (.inl rfl) (frz_work h5 h6 h7)) frzL_n
  by_cases g1 : k < 0
  · have hr : countedAt b o k = (b, 5) := by unfold countedAt; rw [if_pos g1]
    have hq : countAt b o k = (0, 5) := by unfold countAt; rw [if_pos g1]
    rw [hq]
    rw [hr]
    simp -implicitDefEqProofs (disch := omega) [go_sem, Try.f88]
    exact ends_of (i := 5) (j := 6) (k := 7) (by omega) (by simp [go_sem]) ⟨[], by simp [go_sem]⟩ ⟨[], by simp [go_sem]⟩ ⟨[], by simp [go_sem]⟩ (by simp [go_sem]) (by simp [go_sem]) (by simp [go_sem]) (by omega)
  obtain ⟨n, rfl⟩ : ∃ n : Nat, k = n := ⟨k.toNat, by omega⟩
  have hn : n < b.opn.length := by omega
  have hgd : b.opn.getD ((n : Int)).toNat default = b.opn[n] := by rw [Int.toNat_natCast, List.getD_eq_getElem?_getD, List.getElem?_eq_getElem hn]; rfl
  by_cases g2 : o.inn < b.opn[n].inn ∨ o.out < b.opn[n].out
  · have hr : countedAt b o n = (b, 7) := by unfold countedAt; rw [if_neg g1, hgd, if_pos g2]
    have hq : countAt b o n = (0, 7) := by unfold countAt; rw [if_neg g1, hgd, if_pos g2]
    rw [hq]
    rw [hr]
    simp -implicitDefEqProofs (disch := omega) [go_sem, Try.f88]
    exact ends_of (i := 5) (j := 6) (k := 7) (by omega) (by simp [go_sem]) ⟨[], by simp [go_sem]⟩ ⟨[], by simp [go_sem]⟩ ⟨[], by simp [go_sem]⟩ (by simp [go_sem]) (by simp [go_sem]) (by simp [go_sem]) (by omega)
  have hq : countAt b o n = ((n : Int), 0) := by unfold countAt; rw [if_neg g1, hgd, if_neg g2]
  have hr : countedAt b o n = ({ b with items := b.items ++ [⟨3, o.id, o.inn, o.out, o.cause⟩], opn := b.opn.take n ++ b.opn.drop (n + 1) }, 0) := by unfold countedAt; rw [if_neg g1, hgd, if_neg g2, if_pos hk, Int.toNat_natCast]
  have hlen : (b.opn.take n ++ b.opn.drop (n + 1)).length = b.opn.length - 1 := by simp; omega
  rw [hq, hr]
  simp -implicitDefEqProofs (disch := omega) [go_sem]
  refine .inr (deleteSess_dc Γ _ b.opn (by simp [go_sem]) n hn s1 ?_)
  simp -implicitDefEqProofs (disch := omega) [go_sem]
  refine side (by kernel_rfl) ?_
  simp -implicitDefEqProofs (disch := omega) [go_sem, Try.f88]
  rw [← hlen]
  exact ends_of (i := 5) (j := 163) (k := 7) (by omega) (by simp [go_sem]) ⟨_, by simp [go_sem]; rfl⟩ ⟨[], by simp [go_sem, ← items_append, item_one]⟩ ⟨[], by simp [go_sem]⟩ (by simp [go_sem]) (by simp [go_sem]) (by simp [go_sem]) (by omega)
set_option maxHeartbeats 4000000 in
set_option maxRecDepth 100000 in
theorem pass_dc (b : Book) (o : Op) (hk : o.kind = 5) (hs : Short b) : DC Try.prog Γ 90 [.ptr 10 0] (hpL (appL b o)) 83 (Ends (failedOp b o).1 b o (failedOp b o).2) := by
  refine dc_by mixed Try.func90 rfl (fun args w => Try.call90 args w) ?_
  have c1 := placeOfUser_pc Γ b.locks (by have := hs.2.2; omega) o.user
  have hrg := first_range (fun l : Lock => decide (l.user = o.user)) b.locks 0
  obtain ⟨s1, s2, s3⟩ := hs
  have hr0 : failedOp b o = failedAt b o (failed b o.user) := rfl
  rw [hr0]; clear hr0
  change PC _ _ _ _ (.int .i64 (failed b o.user)) at c1
  change failed b o.user = -1 ∨ _ ≤ failed b o.user ∧ failed b o.user < _ at hrg
  generalize failed b o.user = k at *
  unfold appL
  simp -implicitDefEqProofs (disch := omega) [go_sem]
  refine .inl (call_bare [7] c1 (by constructor) (fun H' hH => ?_) ?_)
  · have h7 := hH 7 (by simp)
    simp -implicitDefEqProofs [go_sem] at h7
    exact frzL_c (fz_locks (rw := true) h7 (.inl rfl) rfl) (frzL_c ((frz_data _ _ _ _).2 rfl) frzL_n)
  simp -implicitDefEqProofs (disch := omega) [go_sem]
  refine side (by kernel_rfl) ?_
  by_cases g1 : k < 0
  · have hr : failedAt b o k = (b, 5) := by unfold failedAt; rw [if_pos hk, if_pos g1]
    rw [hr]
    simp -implicitDefEqProofs (disch := omega) [go_sem, g1, Try.f90]
    exact ends_of (i := 5) (j := 6) (k := 7) (by omega) (by simp [go_sem]) ⟨[], by simp [go_sem]⟩ ⟨[], by simp [go_sem]⟩ ⟨[], by simp [go_sem]⟩ (by simp [go_sem]) (by simp [go_sem]) (by simp [go_sem]) (by omega)
  obtain ⟨n, rfl⟩ : ∃ n : Nat, k = n := ⟨k.toNat, by omega⟩
  have hn : n < b.locks.length := by omega
  have hr : failedAt b o n = ({ b with locks := b.locks.take n ++ b.locks.drop (n + 1) }, 0) := by unfold failedAt; rw [if_pos hk, if_neg g1, Int.toNat_natCast]
  have hlen : (b.locks.take n ++ b.locks.drop (n + 1)).length = b.locks.length - 1 := by simp; omega
  rw [hr]
  simp -implicitDefEqProofs (disch := omega) [go_sem, g1]
  refine .inr (deleteLock_dc Γ _ b.locks (by simp [go_sem]) n hn s3 ?_)
  simp -implicitDefEqProofs (disch := omega) [go_sem, Try.f90]
  rw [← hlen]
  exact ends_of (i := 5) (j := 6) (k := 7) (by omega) (by simp [go_sem]) ⟨[], by simp [go_sem]⟩ ⟨[], by simp [go_sem]⟩ ⟨_, by simp [go_sem]; rfl⟩ (by simp [go_sem]) (by simp [go_sem]) (by simp [go_sem]) (by omega)
end Bk
end Go.Proofs.Ytedcnbkhdkchoaa
