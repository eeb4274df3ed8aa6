/- Books: what is done to one, in memory of its own: room, and where a session stands. -/
import Derived.Test.YtjecieidmgkbaaaBL
import Derived.Test.YtjecieidmgkbaaaBH
namespace Go.Proofs.Ytjecieidmgkbaaa
open Go.RowKit
set_option linter.unusedVariables false
set_option linter.unusedSimpArgs false
namespace Bk
variable (Γ : Nat → Option (List Data))
theorem hasRoom_pc (b : Book) (hs : Short b) (n : Int) (hn : 0 ≤ n ∧ n ≤ 1000000) : PC Try.prog Γ 60 [.pc [.int .i64 b.next, .sl 6 (sesss b.opn), .sl 5 (items b.items)], .int .i64 n] (.bool (decide ((b.items.length : Int) + b.opn.length + n ≤ 60))) := by
  refine pc_by mixed Try.func60 rfl (fun args w => Try.call60 args w) ?_
  obtain ⟨s1, s2, s3⟩ := hs
  simp -implicitDefEqProofs (disch := omega) [go_sem]
  refine side (by kernel_rfl) ?_
  simp -implicitDefEqProofs (disch := omega) [go_sem, Try.f60]
def opData (o : Op) : List Data := [.int .i64 o.kind, .int .i64 o.id, .int .i64 o.link, .int .u32 o.addr, .str o.user, .int .u64 o.inn, .int .u64 o.out, .int .i64 o.cause, .int .i64 o.at_]
/-- What is done, and the book to which it is done, as cells. -/
def workData (b : Book) (o : Op) : List Data := [.int .i64 b.next, .sl 6 (sesss b.opn), .sl 5 (items b.items), .sl 3 (locks b.locks), .int .i64 o.kind, .int .i64 o.id, .int .i64 o.link, .int .u32 o.addr, .str o.user, .int .u64 o.inn, .int .u64 o.out, .int .i64 o.cause, .int .i64 o.at_]
def countAt (b : Book) (o : Op) (k : Int) : Int × Int :=
  if k < 0 then (0, 5)
  else if o.inn < (b.opn.getD k.toNat default).inn ∨ o.out < (b.opn.getD k.toNat default).out then (0, 7)
  else (k, 0)
set_option maxHeartbeats 1000000 in
set_option maxRecDepth 100000 in
theorem counted2_pc (b : Book) (hs : Short b) (o : Op) : PC Try.prog Γ 61 [.pc (workData b o)] (.tup [.int .i64 (countAt b o (ofId b o.id)).1, .int .i64 (countAt b o (ofId b o.id)).2]) := by
  refine pc_by mixed Try.func61 rfl (fun args w => Try.call61 args w) ?_
  obtain ⟨s1, s2, s3⟩ := hs
  have hk := placeOfId_pc Γ b.opn (by omega) o.id
  have hrg := first_range (fun s : Sess => decide (s.id = o.id)) b.opn 0
  change PC _ _ _ _ (.int .i64 (ofId b o.id)) at hk
  change ofId b o.id = -1 ∨ _ ≤ ofId b o.id ∧ ofId b o.id < _ at hrg
  generalize ofId b o.id = k at *
  simp -implicitDefEqProofs (disch := omega) [go_sem, workData]
  refine .inl (call_data hk (by simp [go_sem]) ?_)
  simp -implicitDefEqProofs (disch := omega) [go_sem]
  refine side (by kernel_rfl) ?_
  by_cases g1 : k < 0
  · have hr : countAt b o k = (0, 5) := by unfold countAt; rw [if_pos g1]
    simp -implicitDefEqProofs (disch := omega) [go_sem, hr, Try.f61]
  obtain ⟨n, rfl⟩ : ∃ n : Nat, k = n := ⟨k.toNat, by omega⟩
  have hn : n < b.opn.length := by omega
  have hgd : b.opn.getD ((n : Int)).toNat default = b.opn[n] := by rw [Int.toNat_natCast, List.getD_eq_getElem?_getD, List.getElem?_eq_getElem hn]; rfl
  by_cases g2 : o.inn < b.opn[n].inn
  · have hr : countAt b o n = (0, 7) := by unfold countAt; rw [if_neg g1, hgd, if_pos (.inl g2)]
    simp -implicitDefEqProofs (disch := omega) [go_sem]
    refine side (by kernel_rfl) ?_
    simp -implicitDefEqProofs (disch := omega) [go_sem, hr, Try.f61]
  by_cases g3 : o.out < b.opn[n].out
  · have hr : countAt b o n = (0, 7) := by unfold countAt; rw [if_neg g1, hgd, if_pos (.inr g3)]
    simp -implicitDefEqProofs (disch := omega) [go_sem]
    refine side (by kernel_rfl) ?_
    simp -implicitDefEqProofs (disch := omega) [go_sem, hr, Try.f61]
  have hr : countAt b o n = ((n : Int), 0) := by unfold countAt; rw [if_neg g1, hgd, if_neg (by omega)]
  simp -implicitDefEqProofs (disch := omega) [go_sem]
  refine side (by kernel_rfl) ?_
  simp -implicitDefEqProofs (disch := omega) [go_sem, hr, Try.f61]
end Bk
end Go.Proofs.Ytjecieidmgkbaaa
