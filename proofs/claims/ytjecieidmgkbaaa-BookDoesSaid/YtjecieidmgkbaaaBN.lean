/- Books: what is done to one, in memory of its own: a session begins. -/
import Derived.Test.YtjecieidmgkbaaaBM
namespace Go.Proofs.Ytjecieidmgkbaaa
open Go.RowKit
set_option linter.unusedVariables false
set_option linter.unusedSimpArgs false
namespace Bk
variable (Γ : Nat → Option (List Data))
def opsMap : Blk := .obj (.mp [.int .i64 1, .int .i64 2, .int .i64 3, .int .i64 4, .int .i64 5, .int .i64 6] [.bnd 47 (.ptr 10 0), .bnd 48 (.ptr 10 0), .bnd 49 (.ptr 10 0), .bnd 50 (.ptr 10 0), .bnd 51 (.ptr 10 0), .bnd 52 (.ptr 10 0)])
/-- What Apply has in memory when it does what is to be done. -/
def appL (b : Book) (o : Op) : List (Nat × Blk) := [(15, opsMap),
  (10, .blk true [.data (.int .i64 b.next), .ref 5 0 b.opn.length 6, .ref 6 0 b.items.length 5, .ref 7 0 b.locks.length 3, .data (.int .i64 o.kind), .data (.int .i64 o.id), .data (.int .i64 o.link), .data (.int .u32 o.addr), .data (.str o.user), .data (.int .u64 o.inn), .data (.int .u64 o.out), .data (.int .i64 o.cause), .data (.int .i64 o.at_)]),
  (7, .blk true ((flat (locks b.locks)).map .data)), (6, .blk true ((flat (items b.items)).map .data)), (5, .blk true ((flat (sesss b.opn)).map .data)),
  (2, .blk true [.data (.int .i64 0), .emp 0, .emp 0, .emp 0]),
  (1, .blk true [.data (.int .i64 o.kind), .data (.int .i64 o.id), .data (.int .i64 o.link), .data (.int .u32 o.addr), .data (.str o.user), .data (.int .u64 o.inn), .data (.int .u64 o.out), .data (.int .i64 o.cause), .data (.int .i64 o.at_)]),
  (0, .blk true [.data (.int .i64 b.next), .data (.sl 6 (sesss b.opn)), .data (.sl 5 (items b.items)), .data (.sl 3 (locks b.locks))])]
/-- And behind it. -/
def appM (c b : Book) (o : Op) : List (Nat × Blk) := [
  (10, .blk true [.data (.int .i64 c.next), .data (.sl 6 (sesss c.opn)), .data (.sl 5 (items c.items)), .data (.sl 3 (locks c.locks)), .data (.int .i64 o.kind), .data (.int .i64 o.id), .data (.int .i64 o.link), .data (.int .u32 o.addr), .data (.str o.user), .data (.int .u64 o.inn), .data (.int .u64 o.out), .data (.int .i64 o.cause), .data (.int .i64 o.at_)]),
  (2, .blk true [.data (.int .i64 0), .emp 0, .emp 0, .emp 0]),
  (1, .blk true [.data (.int .i64 o.kind), .data (.int .i64 o.id), .data (.int .i64 o.link), .data (.int .u32 o.addr), .data (.str o.user), .data (.int .u64 o.inn), .data (.int .u64 o.out), .data (.int .i64 o.cause), .data (.int .i64 o.at_)]),
  (0, .blk true [.data (.int .i64 b.next), .data (.sl 6 (sesss b.opn)), .data (.sl 5 (items b.items)), .data (.sl 3 (locks b.locks))])]
/-- It ends with this. -/
def Ends (c b : Book) (o : Op) (e : Int) (d0 : D) (H1 : Nat → Blk) (nx1 : Nat) : Prop := ∃ F, WeakR F (rhoL []) ⟨envL [(0, d0)], H1, nx1, 83, 1⟩ ⟨envL [(0, .data (.int .i64 e))], hpL (appM c b o), 83, 83, 1⟩
@[congr] theorem Ends_congr {n0 : Nat} (tk : tick = n0) (c b : Book) (o : Op) (e : Int) {d0 d1 : D} (hd : d0 = d1) {H1 H2 : Nat → Blk} (hH : H1 = H2) {nx1 nx2 : Nat} (hn : nx1 = nx2) : Ends c b o e d0 H1 nx1 = Ends c b o e d1 H2 nx2 := by rw [hd, hH, hn]
/-- The rows of a book that nobody writes any more. -/
theorem ends_of {c b : Book} {o : Op} {e : Int} {H1 : Nat → Blk} {nx1 i j k : Nat} (hn : 83 ≤ nx1)
    (h10 : H1 10 = .blk true [.data (.int .i64 c.next), .ref i 0 c.opn.length 6, .ref j 0 c.items.length 5, .ref k 0 c.locks.length 3, .data (.int .i64 o.kind), .data (.int .i64 o.id), .data (.int .i64 o.link), .data (.int .u32 o.addr), .data (.str o.user), .data (.int .u64 o.inn), .data (.int .u64 o.out), .data (.int .i64 o.cause), .data (.int .i64 o.at_)])
    (hi : ∃ t, H1 i = .blk true ((flat (sesss c.opn)).map .data ++ t)) (hj : ∃ t, H1 j = .blk true ((flat (items c.items)).map .data ++ t)) (hk : ∃ t, H1 k = .blk true ((flat (locks c.locks)).map .data ++ t))
    (h2 : H1 2 = .blk true [.data (.int .i64 0), .emp 0, .emp 0, .emp 0])
    (h1 : H1 1 = .blk true [.data (.int .i64 o.kind), .data (.int .i64 o.id), .data (.int .i64 o.link), .data (.int .u32 o.addr), .data (.str o.user), .data (.int .u64 o.inn), .data (.int .u64 o.out), .data (.int .i64 o.cause), .data (.int .i64 o.at_)])
    (h0 : H1 0 = .blk true [.data (.int .i64 b.next), .data (.sl 6 (sesss b.opn)), .data (.sl 5 (items b.items)), .data (.sl 3 (locks b.locks))])
    (hne : (i ≠ 0 ∧ i ≠ 1 ∧ i ≠ 2 ∧ i ≠ 10) ∧ (j ≠ 0 ∧ j ≠ 1 ∧ j ≠ 2 ∧ j ≠ 10) ∧ (k ≠ 0 ∧ k ≠ 1 ∧ k ≠ 2 ∧ k ≠ 10)) : Ends c b o e (.data (.int .i64 e)) H1 nx1 := by
  obtain ⟨ti, hi⟩ := hi
  obtain ⟨tj, hj⟩ := hj
  obtain ⟨tk, hk⟩ := hk
  obtain ⟨⟨i0, i1, i2, i10⟩, ⟨j0, j1, j2, j10⟩, k0, k1, k2, k10⟩ := hne
  have fi : fzH H1 [i, j, k] i = .blk false ((flat (sesss c.opn)).map .data ++ ti) := by simp [fzH, hi, fz]
  have fj : fzH H1 [i, j, k] j = .blk false ((flat (items c.items)).map .data ++ tj) := by simp [fzH, hj, fz]
  have fk : fzH H1 [i, j, k] k = .blk false ((flat (locks c.locks)).map .data ++ tk) := by simp [fzH, hk, fz]
  have frz : ∀ (g es : Nat) (l : List Data) (t : List D), fzH H1 [i, j, k] g = .blk false ((flat l).map .data ++ t) → (∀ x ∈ l, x.cells.length = es) → Frz false (fzH H1 [i, j, k]) (.ref g 0 l.length es) (.sl es l) := fun g es l t hg hes => by
    refine .ref g 0 l.length es false _ l (fun q => .data ((flat l).getD q .nilp)) hg (.inr rfl) rfl hes (by simp [flat_length hes]) (fun q x hx => ?_) (fun q x hx => ?_)
    · have hq := (List.getElem?_eq_some_iff.1 hx).1
      rw [Nat.zero_add, List.getElem?_append_left (by simpa using hq)]
      simp [hx]
    · have : (flat l).getD q .nilp = x := by simp [hx]
      rw [this]; exact .data x
  have r1 : Ren 83 (rhoL []) (fzH H1 [i, j, k]) (.data (.sl 6 (sesss c.opn))) (.ref i 0 c.opn.length 6) := .frz _ _ (by have := frz i 6 (sesss c.opn) ti fi (sesss_cells _); rwa [sesss_length] at this)
  have r2 : Ren 83 (rhoL []) (fzH H1 [i, j, k]) (.data (.sl 5 (items c.items))) (.ref j 0 c.items.length 5) := .frz _ _ (by have := frz j 5 (items c.items) tj fj (items_cells _); rwa [items_length] at this)
  have r3 : Ren 83 (rhoL []) (fzH H1 [i, j, k]) (.data (.sl 3 (locks c.locks))) (.ref k 0 c.locks.length 3) := .frz _ _ (by have := frz k 3 (locks c.locks) tk fk (locks_cells _); rwa [locks_length] at this)
  have g10 : fzH H1 [i, j, k] 10 = H1 10 := by simp [fzH, Ne.symm i10, Ne.symm j10, Ne.symm k10]
  have g2 : fzH H1 [i, j, k] 2 = H1 2 := by simp [fzH, Ne.symm i2, Ne.symm j2, Ne.symm k2]
  have g1 : fzH H1 [i, j, k] 1 = H1 1 := by simp [fzH, Ne.symm i1, Ne.symm j1, Ne.symm k1]
  have g0 : fzH H1 [i, j, k] 0 = H1 0 := by simp [fzH, Ne.symm i0, Ne.symm j0, Ne.symm k0]
  refine ⟨[i, j, k], ren_lists [] _ _ 83 (fun p hp => ?_) (fun p hp => ?_) (by simp [appM, rhoL]) (by omega) (by simp)⟩
  · simp only [List.mem_singleton] at hp
    subst hp
    simp [envL, go_sem]
  · simp only [appM, List.mem_cons, List.not_mem_nil, or_false] at hp
    rcases hp with rfl | rfl | rfl | rfl
    · refine ⟨by omega, ?_⟩
      simp only [rhoL_nil, renO_some, g10, h10, renK_blk]
      refine ⟨trivial, ?_⟩
      simp -implicitDefEqProofs [go_sem, r1, r2, r3]
    · refine ⟨by omega, ?_⟩
      simp only [rhoL_nil, renO_some, g2, h2, renK_blk]
      refine ⟨trivial, ?_⟩
      simp -implicitDefEqProofs [go_sem]
    · refine ⟨by omega, ?_⟩
      simp only [rhoL_nil, renO_some, g1, h1, renK_blk]
      refine ⟨trivial, ?_⟩
      simp -implicitDefEqProofs [go_sem]
    · refine ⟨by omega, ?_⟩
      simp only [rhoL_nil, renO_some, g0, h0, renK_blk]
      refine ⟨trivial, ?_⟩
      simp -implicitDefEqProofs [go_sem]
end Bk
end Go.Proofs.Ytjecieidmgkbaaa
