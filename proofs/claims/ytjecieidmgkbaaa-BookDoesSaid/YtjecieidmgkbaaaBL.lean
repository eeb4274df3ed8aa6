/- Books: copies in memory of their own. -/
import Derived.Test.YtjecieidmgkbaaaBJ
import Derived.Test.YtjecieidmgkbaaaYE
namespace Go.Proofs.Ytjecieidmgkbaaa
open Go.RowKit
set_option linter.unusedVariables false
set_option linter.unusedSimpArgs false
namespace Bk
variable (Γ : Nat → Option (List Data))
theorem cloneSess_oc (l : List Sess) (hl : l.length ≤ 1000000) : OC Try.prog Γ 44 [.sl 6 (sesss l)] (.ref 0 0 l.length 6) [(0, .blk true ((flat (sesss l)).map .data))] 1 := by
  refine oc_by mixed Try.func44 rfl (fun args w => Try.call44 args w) ?_
  simp -implicitDefEqProofs (disch := omega) [go_sem]
  refine fun q hq => ?_
  cases q
  · simp -implicitDefEqProofs (disch := omega) [go_sem, Try.f44]
    refine own_of [] [(0, some 5)] ?_
    apply ren_lists <;> simp -implicitDefEqProofs [go_sem]
  · have h0 : l = [] := by simpa [sesss] using hq rfl
    subst h0
    simp -implicitDefEqProofs (disch := omega) [go_sem, Try.f44]
    refine own_of [] [(0, none)] ?_
    apply ren_lists <;> simp -implicitDefEqProofs [go_sem, sesss, flat]
theorem cloneItem_oc (l : List Item) (hl : l.length ≤ 1000000) : OC Try.prog Γ 45 [.sl 5 (items l)] (.ref 0 0 l.length 5) [(0, .blk true ((flat (items l)).map .data))] 1 := by
  refine oc_by mixed Try.func45 rfl (fun args w => Try.call45 args w) ?_
  simp -implicitDefEqProofs (disch := omega) [go_sem]
  refine fun q hq => ?_
  cases q
  · simp -implicitDefEqProofs (disch := omega) [go_sem, Try.f45]
    refine own_of [] [(0, some 5)] ?_
    apply ren_lists <;> simp -implicitDefEqProofs [go_sem]
  · have h0 : l = [] := by simpa [items] using hq rfl
    subst h0
    simp -implicitDefEqProofs (disch := omega) [go_sem, Try.f45]
    refine own_of [] [(0, none)] ?_
    apply ren_lists <;> simp -implicitDefEqProofs [go_sem, items, flat]
theorem cloneLock_oc (l : List Lock) (hl : l.length ≤ 1000000) : OC Try.prog Γ 46 [.sl 3 (locks l)] (.ref 0 0 l.length 3) [(0, .blk true ((flat (locks l)).map .data))] 1 := by
  refine oc_by mixed Try.func46 rfl (fun args w => Try.call46 args w) ?_
  simp -implicitDefEqProofs (disch := omega) [go_sem]
  refine fun q hq => ?_
  cases q
  · simp -implicitDefEqProofs (disch := omega) [go_sem, Try.f46]
    refine own_of [] [(0, some 5)] ?_
    apply ren_lists <;> simp -implicitDefEqProofs [go_sem]
  · have h0 : l = [] := by simpa [locks] using hq rfl
    subst h0
    simp -implicitDefEqProofs (disch := omega) [go_sem, Try.f46]
    refine own_of [] [(0, none)] ?_
    apply ren_lists <;> simp -implicitDefEqProofs [go_sem, locks, flat]
def Short (b : Book) : Prop := b.opn.length ≤ 1000000 ∧ b.items.length ≤ 1000000 ∧ b.locks.length ≤ 1000000
/-- A book over rows of its own. -/
def bookD (b : Book) (i j k : Nat) : D := .agg [.data (.int .i64 b.next), .ref i 0 b.opn.length 6, .ref j 0 b.items.length 5, .ref k 0 b.locks.length 3]
def sessB (l : List Sess) : Blk := .blk true ((flat (sesss l)).map .data)
def itemB (l : List Item) : Blk := .blk true ((flat (items l)).map .data)
def lockB (l : List Lock) : Blk := .blk true ((flat (locks l)).map .data)
set_option maxHeartbeats 1000000 in
theorem copied_oc (b : Book) (hs : Short b) : OC Try.prog Γ 26 [book b] (bookD b 0 1 2) [(0, sessB b.opn), (1, itemB b.items), (2, lockB b.locks)] 3 := by
  refine oc_by mixed Try.func26 rfl (fun args w => Try.call26 args w) ?_
  obtain ⟨s1, s2, s3⟩ := hs
  simp -implicitDefEqProofs (disch := omega) [go_sem, book]
  refine .inr (eff_own1 (cloneSess_oc Γ b.opn s1) (by simp [go_sem]) ?_)
  simp -implicitDefEqProofs (disch := omega) [go_sem]
  refine .inr (eff_own1 (cloneItem_oc Γ b.items s2) (by simp [go_sem]) ?_)
  simp -implicitDefEqProofs (disch := omega) [go_sem]
  refine .inr (eff_own1 (cloneLock_oc Γ b.locks s3) (by simp [go_sem]) ?_)
  simp -implicitDefEqProofs (disch := omega) [go_sem]
  refine side (by kernel_rfl) ?_
  simp -implicitDefEqProofs (disch := omega) [go_sem, Try.f26]
  refine own_of [] [(0, some 6), (1, some 9), (2, some 12)] ?_
  apply ren_lists <;> simp -implicitDefEqProofs [go_sem, bookD, sessB, itemB, lockB]
  exact ren_aggL rfl (by simp -implicitDefEqProofs [go_sem])
end Bk
end Go.Proofs.Ytjecieidmgkbaaa
